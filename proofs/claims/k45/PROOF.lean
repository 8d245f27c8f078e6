import PyProof.Rows.All
import Wide.All
import OpenK.AllK
import Wide.FinOn
import HandS.ForMost
import HandS.Exc
import HandS.Deep
import KE.SortData
import KE.SortKeyHeap
import HandS.TupAny
import HandS.TupLe
import HandS.IsInst
import HandS.Flow
import HandS.Conv
import HandS.Style
import HandS.Walk
import HandS.Defaults
import HandS.DictTup
import HandS.Small
import KE.KDictSum
import KE.KDictCopyH
import HandS.Lambda
import KE.GoesEnum
import KE.DataMinMax
import HandS.SortKw
import HandS.SetFor
import HandS.Strs
import HandS.Ends
import HandS.HeadEnd
import KE.KStateDown
import HandS.Base
import HandS.Call
import HandS.More
import HandS.Words
import HandS.WordsExc
import HandS.Head0
import HandS.Head1
import HandS.Head2
import HandS.HeadHook1
import HandS.HeadHook2
import PyProof.Rows.RegStrFacts
import PySem.Challenge.RW_treeandtrip_k45_notice_day_by_day
set_option Elab.async false
set_option linter.all false
set_option maxRecDepth 100000
set_option maxHeartbeats 0
section
set_option maxRecDepth 100000
set_option maxHeartbeats 4000000
/-! EvRel: plain values, the store of mutable things, how they stand in the abstract heap. -/
namespace Ev
open PySem PySem.Spec PyProof.Rows L2

/-- a value: plain data, or the i-th mutable thing of the store -/
inductive DV where
  | d (x : PyData)
  | ref (i : Nat)
/-- a mutable thing: a list of plain data, a list that may name mutable things, a dict (keys: tuples of ints; ints) -/
inductive OB where
  | lst (xs : List PyData)
  | box (xs : List DV)
  | dT (kvs : List (List Int × PyData))
  | dK (kvs : List (Int × PyData))
abbrev Sto := List OB
abbrev Loc := List (Option DV)

/-- where the store's things stand; Rz: addresses that are set aside -/
structure Z where
  Rz : Addr → Prop
  ρ : Nat → Addr
def Live (z : Z) (S : Sto) (a : Addr) : Prop := z.Rz a ∨ ∃ i, i < S.length ∧ z.ρ i = a

mutual
def RelP (H : Hp) (L : Addr → Prop) : PyData → V → Prop
  | .none, v => v = .non
  | .bool b, v => v = .bl b
  | .int i, v => v = .int i
  | .str x, v => v = .str x
  | .list xs, v => ∃ a ys, v = .ref a ∧ ¬ L a ∧ Rd H a (.lst ys) ∧ RelPs H L xs ys
  | .tuple xs, v => ∃ a ys, v = .ref a ∧ ¬ L a ∧ H a = some (.tup ys) ∧ RelPs H L xs ys
  | .dict _, _ => False
def RelPs (H : Hp) (L : Addr → Prop) : List PyData → List V → Prop
  | [], ys => ys = []
  | x :: xs, ys => ∃ y r, ys = y :: r ∧ RelP H L x y ∧ RelPs H L xs r
end
def RelD (z : Z) (S : Sto) (H : Hp) : DV → V → Prop
  | .d x, v => RelP H (Live z S) x v
  | .ref i, v => i < S.length ∧ v = .ref (z.ρ i)
def RelDs (z : Z) (S : Sto) (H : Hp) : List DV → List V → Prop
  | [], ys => ys = []
  | x :: xs, ys => ∃ y r, ys = y :: r ∧ RelD z S H x y ∧ RelDs z S H xs r
/-- a dict's entries -/
def RelKs {κ κ' : Type} (f : κ → κ') (H : Hp) (L : Addr → Prop) : List (κ × PyData) → List (κ' × V) → Prop
  | [], ys => ys = []
  | p :: xs, ys => ∃ y r, ys = (f p.1, y) :: r ∧ RelP H L p.2 y ∧ RelKs f H L xs r
def fT (k : List Int) : List Key := k.map Sum.inl
def fK (k : Int) : Key := Sum.inl k
def RelO (z : Z) (S : Sto) (H : Hp) (a : Addr) : OB → Prop
  | .lst xs => ∃ ys, H a = some (.lst ys) ∧ RelPs H (Live z S) xs ys
  | .box xs => ∃ ys, H a = some (.lst ys) ∧ RelDs z S H xs ys
  | .dT kvs => ∃ ys, H a = some (.dT ys) ∧ RelKs fT H (Live z S) kvs ys
  | .dK kvs => ∃ ys, H a = some (.dK ys) ∧ RelKs fK H (Live z S) kvs ys
structure Rep (z : Z) (S : Sto) (H : Hp) : Prop where
  inj : ∀ i j, i < S.length → j < S.length → z.ρ i = z.ρ j → i = j
  nrz : ∀ i, i < S.length → ¬ z.Rz (z.ρ i)
  trk : ∀ a, z.Rz a → H a ≠ none
  at_ : ∀ i o, S[i]? = some o → RelO z S H (z.ρ i) o
/-- more may be set aside, but nothing that stands in H -/
def Grow (z z' : Z) (H : Hp) : Prop := (∀ a, z.Rz a → z'.Rz a) ∧ ∀ a, z'.Rz a → z.Rz a ∨ H a = none
theorem Grow.refl (z : Z) (H : Hp) : Grow z z H := ⟨fun _ h => h, fun _ h => .inl h⟩
structure Tr (z : Z) (S : Sto) (H : Hp) (z' : Z) (S' : Sto) (H' : Hp) : Prop where
  rz : Grow z z' H
  len : S.length ≤ S'.length
  agr : ∀ i, i < S.length → z'.ρ i = z.ρ i
  keep : ∀ a o, H a = some o → ¬ (∃ i, i < S.length ∧ z.ρ i = a) → H' a = some o
  fresh : ∀ i, S.length ≤ i → i < S'.length → H (z'.ρ i) = none

theorem Rep.tracked {z : Z} {S : Sto} {H : Hp} (R : Rep z S H) {i : Nat} (h : i < S.length) : H (z.ρ i) ≠ none := by
  have := R.at_ i S[i] (List.getElem?_eq_getElem h)
  intro e
  cases o : S[i] with
  | lst xs => rw [o] at this; obtain ⟨ys, h1, _⟩ := this; rw [e] at h1; cases h1
  | box xs => rw [o] at this; obtain ⟨ys, h1, _⟩ := this; rw [e] at h1; cases h1
  | dT xs => rw [o] at this; obtain ⟨ys, h1, _⟩ := this; rw [e] at h1; cases h1
  | dK xs => rw [o] at this; obtain ⟨ys, h1, _⟩ := this; rw [e] at h1; cases h1
theorem Tr.refl (z : Z) (S : Sto) (H : Hp) : Tr z S H z S H := ⟨Grow.refl _ _, Nat.le_refl _, fun _ _ => rfl, fun _ _ h _ => h, fun i h1 h2 => absurd h2 (by omega)⟩
theorem Tr.trans {z z1 z2 : Z} {S S1 S2 : Sto} {H H1 H2 : Hp} (a : Tr z S H z1 S1 H1) (R : Rep z1 S1 H1) (b : Tr z1 S1 H1 z2 S2 H2) : Tr z S H z2 S2 H2 := by
  have nl : ∀ x o, H x = some o → ¬ (∃ i, i < S.length ∧ z.ρ i = x) → ¬ (∃ i, i < S1.length ∧ z1.ρ i = x) := by
    rintro x o hx hn ⟨i, hi, e⟩
    by_cases h : i < S.length
    · exact hn ⟨i, h, by rw [← a.agr i h]; exact e⟩
    · have := a.fresh i (by omega) hi
      rw [e, hx] at this; cases this
  have back : ∀ x, H1 x = none → H x = none := fun x q => by
    cases e : H x with
    | none => rfl
    | some o =>
      by_cases hn : ∃ j, j < S.length ∧ z.ρ j = x
      · obtain ⟨j, hj, ej⟩ := hn
        have := R.tracked (i := j) (Nat.lt_of_lt_of_le hj a.len)
        rw [a.agr j hj, ej] at this
        exact absurd q this
      · rw [a.keep _ _ e hn] at q; cases q
  refine ⟨⟨fun x h => b.rz.1 x (a.rz.1 x h), fun x h => (b.rz.2 x h).elim (fun h => a.rz.2 x h) (fun h => .inr (back x h))⟩, Nat.le_trans a.len b.len, fun i h => (b.agr i (Nat.lt_of_lt_of_le h a.len)).trans (a.agr i h), fun x o hx hn => b.keep x o (a.keep x o hx hn) (nl x o hx hn), fun i h1 h2 => ?_⟩
  by_cases h : i < S1.length
  · rw [b.agr i h]; exact a.fresh i h1 h
  · exact back _ (b.fresh i (by omega) h2)
theorem rd_keep {H H' : Hp} {a : Addr} {u : HO} (k : ∀ o, H a = some o → H' a = some o) (h : Rd H a u) : Rd H' a u := by
  rcases h with h | ⟨o, h⟩
  · exact .inl (k _ h)
  · exact .inr ⟨o, k _ h⟩
theorem rd_some {H : Hp} {a : Addr} {u : HO} (h : Rd H a u) : ∃ o, H a = some o := by
  rcases h with h | ⟨o, h⟩
  · exact ⟨_, h⟩
  · exact ⟨_, h⟩
mutual
theorem RelP.mono {H H' : Hp} {L L' : Addr → Prop} (k : ∀ a o, H a = some o → ¬ L a → H' a = some o) (l : ∀ a o, H a = some o → ¬ L a → ¬ L' a) : ∀ (x : PyData) (v : V), RelP H L x v → RelP H' L' x v
  | .none, _, h => h
  | .bool _, _, h => h
  | .int _, _, h => h
  | .str _, _, h => h
  | .list xs, v, h => by
    unfold RelP at h ⊢
    obtain ⟨a, ys, e, n, r, hs⟩ := h
    obtain ⟨o, ho⟩ := rd_some r
    exact ⟨a, ys, e, l a o ho n, rd_keep (fun o h => k a o h n) r, RelPs.mono k l xs ys hs⟩
  | .tuple xs, v, h => by
    unfold RelP at h ⊢
    obtain ⟨a, ys, e, n, r, hs⟩ := h
    exact ⟨a, ys, e, l a _ r n, k a _ r n, RelPs.mono k l xs ys hs⟩
  | .dict _, _, h => by
    unfold RelP at h
    exact h.elim
theorem RelPs.mono {H H' : Hp} {L L' : Addr → Prop} (k : ∀ a o, H a = some o → ¬ L a → H' a = some o) (l : ∀ a o, H a = some o → ¬ L a → ¬ L' a) : ∀ (xs : List PyData) (ys : List V), RelPs H L xs ys → RelPs H' L' xs ys
  | [], _, h => h
  | x :: xs, ys, h => by
    unfold RelPs at h ⊢
    obtain ⟨y, r, e, h1, h2⟩ := h
    exact ⟨y, r, e, RelP.mono k l x y h1, RelPs.mono k l xs r h2⟩
end
section
variable {z z' : Z} {S S' : Sto} {H H' : Hp}
theorem Tr.live (t : Tr z S H z' S' H') : ∀ a o, H a = some o → ¬ Live z S a → ¬ Live z' S' a := by
  rintro a o ha hn (h | ⟨i, hi, e⟩)
  · rcases t.rz.2 a h with q | q
    · exact hn (.inl q)
    · rw [q] at ha; cases ha
  · by_cases q : i < S.length
    · exact hn (.inr ⟨i, q, by rw [← t.agr i q]; exact e⟩)
    · have := t.fresh i (by omega) hi
      rw [e, ha] at this; cases this
theorem Tr.kept (t : Tr z S H z' S' H') : ∀ a o, H a = some o → ¬ Live z S a → H' a = some o := fun a o ha hn => t.keep a o ha fun h => hn (.inr h)
theorem RelP.tr (t : Tr z S H z' S' H') {x : PyData} {v : V} (h : RelP H (Live z S) x v) : RelP H' (Live z' S') x v := RelP.mono t.kept t.live x v h
theorem RelPs.tr (t : Tr z S H z' S' H') {xs : List PyData} {vs : List V} (h : RelPs H (Live z S) xs vs) : RelPs H' (Live z' S') xs vs := RelPs.mono t.kept t.live xs vs h
theorem RelD.tr (t : Tr z S H z' S' H') {x : DV} {v : V} (h : RelD z S H x v) : RelD z' S' H' x v := by
  cases x with
  | d x => exact RelP.tr t h
  | ref i => exact ⟨Nat.lt_of_lt_of_le h.1 t.len, by rw [t.agr i h.1]; exact h.2⟩
theorem RelDs.tr (t : Tr z S H z' S' H') : ∀ {xs : List DV} {vs : List V}, RelDs z S H xs vs → RelDs z' S' H' xs vs
  | [], _, h => h
  | x :: xs, _, ⟨y, r, e, h1, h2⟩ => ⟨y, r, e, h1.tr t, RelDs.tr t h2⟩
theorem RelKs.tr {κ κ' : Type} {f : κ → κ'} (t : Tr z S H z' S' H') : ∀ {xs : List (κ × PyData)} {ys : List (κ' × V)}, RelKs f H (Live z S) xs ys → RelKs f H' (Live z' S') xs ys
  | [], _, h => h
  | x :: xs, _, ⟨y, r, e, h1, h2⟩ => ⟨y, r, e, h1.tr t, RelKs.tr t h2⟩
theorem RelPs.length : ∀ {xs : List PyData} {ys : List V} {L : Addr → Prop}, RelPs H L xs ys → xs.length = ys.length
  | [], _, _, h => by unfold RelPs at h; rw [h]; rfl
  | x :: xs, _, _, h => by
    unfold RelPs at h
    obtain ⟨y, r, e, _, h2⟩ := h
    rw [e, List.length_cons, List.length_cons, RelPs.length h2]
theorem RelDs.length : ∀ {xs : List DV} {ys : List V}, RelDs z S H xs ys → xs.length = ys.length
  | [], _, h => by unfold RelDs at h; rw [h]; rfl
  | x :: xs, _, h => by
    unfold RelDs at h
    obtain ⟨y, r, e, _, h2⟩ := h
    rw [e, List.length_cons, List.length_cons, RelDs.length h2]
theorem RelPs.get {L : Addr → Prop} : ∀ {xs : List PyData} {ys : List V} {i : Nat} {x : PyData}, RelPs H L xs ys → xs[i]? = some x → ∃ y, ys[i]? = some y ∧ RelP H L x y
  | [], _, _, _, _, h => by simp at h
  | a :: xs, _, 0, x, h, e => by
    unfold RelPs at h
    obtain ⟨y, r, e1, h1, h2⟩ := h
    simp at e; subst e; subst e1
    exact ⟨y, rfl, h1⟩
  | a :: xs, _, i + 1, x, h, e => by
    unfold RelPs at h
    obtain ⟨y, r, e1, h1, h2⟩ := h
    subst e1
    exact RelPs.get (i := i) h2 (by simpa using e)
theorem RelDs.get : ∀ {xs : List DV} {ys : List V} {i : Nat} {x : DV}, RelDs z S H xs ys → xs[i]? = some x → ∃ y, ys[i]? = some y ∧ RelD z S H x y
  | [], _, _, _, _, h => by simp at h
  | a :: xs, _, 0, x, h, e => by
    obtain ⟨y, r, e1, h1, h2⟩ := h
    simp at e; subst e; subst e1
    exact ⟨y, rfl, h1⟩
  | a :: xs, _, i + 1, x, h, e => by
    obtain ⟨y, r, e1, h1, h2⟩ := h
    subst e1
    exact RelDs.get (i := i) h2 (by simpa using e)
theorem RelPs.append {L : Addr → Prop} : ∀ {xs xs' : List PyData} {ys ys' : List V}, RelPs H L xs ys → RelPs H L xs' ys' → RelPs H L (xs ++ xs') (ys ++ ys')
  | [], _, _, _, h, h' => by unfold RelPs at h; subst h; exact h'
  | x :: xs, xs', ys, ys', h, h' => by
    unfold RelPs at h
    obtain ⟨y, r, e, h1, h2⟩ := h
    subst e
    show RelPs H L (x :: (xs ++ xs')) _
    unfold RelPs
    exact ⟨y, r ++ ys', rfl, h1, RelPs.append h2 h'⟩
theorem RelPs.one {L : Addr → Prop} {x : PyData} {y : V} (h : RelP H L x y) : RelPs H L [x] [y] := by
  unfold RelPs; exact ⟨y, [], rfl, h, by unfold RelPs; rfl⟩
theorem RelPs.nil {L : Addr → Prop} : RelPs H L [] [] := by unfold RelPs; rfl
theorem RelPs.cons {L : Addr → Prop} {x : PyData} {y : V} {xs : List PyData} {ys : List V} (h : RelP H L x y) (t : RelPs H L xs ys) : RelPs H L (x :: xs) (y :: ys) := by
  unfold RelPs; exact ⟨y, ys, rfl, h, t⟩
theorem RelPs.drop {L : Addr → Prop} : ∀ {xs : List PyData} {ys : List V} (n : Nat), RelPs H L xs ys → RelPs H L (xs.drop n) (ys.drop n)
  | xs, ys, 0, h => h
  | [], ys, n + 1, h => by unfold RelPs at h; subst h; simp; exact RelPs.nil
  | x :: xs, ys, n + 1, h => by
    unfold RelPs at h
    obtain ⟨y, r, e, h1, h2⟩ := h
    subst e
    exact RelPs.drop n h2
theorem RelPs.take {L : Addr → Prop} : ∀ {xs : List PyData} {ys : List V} (n : Nat), RelPs H L xs ys → RelPs H L (xs.take n) (ys.take n)
  | xs, ys, 0, h => by simp; exact RelPs.nil
  | [], ys, n + 1, h => by unfold RelPs at h; subst h; simp; exact RelPs.nil
  | x :: xs, ys, n + 1, h => by
    unfold RelPs at h
    obtain ⟨y, r, e, h1, h2⟩ := h
    subst e
    simp only [List.take_succ_cons]
    exact RelPs.cons h1 (RelPs.take n h2)
theorem RelPs.set {L : Addr → Prop} {x : PyData} {y : V} (hx : RelP H L x y) : ∀ {xs : List PyData} {ys : List V} (n : Nat), RelPs H L xs ys → RelPs H L (xs.set n x) (ys.set n y)
  | [], ys, n, h => by unfold RelPs at h; subst h; simp; exact RelPs.nil
  | a :: xs, ys, 0, h => by
    unfold RelPs at h
    obtain ⟨b, r, e, h1, h2⟩ := h
    subst e
    exact RelPs.cons hx h2
  | a :: xs, ys, n + 1, h => by
    unfold RelPs at h
    obtain ⟨b, r, e, h1, h2⟩ := h
    subst e
    exact RelPs.cons h1 (RelPs.set hx n h2)
theorem RelPs.eraseIdx {L : Addr → Prop} : ∀ {xs : List PyData} {ys : List V} (n : Nat), RelPs H L xs ys → RelPs H L (xs.eraseIdx n) (ys.eraseIdx n)
  | [], ys, n, h => by unfold RelPs at h; subst h; simp; exact RelPs.nil
  | a :: xs, ys, 0, h => by
    unfold RelPs at h
    obtain ⟨b, r, e, h1, h2⟩ := h
    subst e
    exact h2
  | a :: xs, ys, n + 1, h => by
    unfold RelPs at h
    obtain ⟨b, r, e, h1, h2⟩ := h
    subst e
    exact RelPs.cons h1 (RelPs.eraseIdx n h2)
theorem RelDs.set {x : DV} {y : V} (hx : RelD z S H x y) : ∀ {xs : List DV} {ys : List V} (n : Nat), RelDs z S H xs ys → RelDs z S H (xs.set n x) (ys.set n y)
  | [], ys, n, h => by unfold RelDs at h; subst h; simp; rfl
  | a :: xs, ys, 0, ⟨b, r, e, h1, h2⟩ => by subst e; exact ⟨y, r, rfl, hx, h2⟩
  | a :: xs, ys, n + 1, ⟨b, r, e, h1, h2⟩ => by subst e; exact ⟨b, _, rfl, h1, RelDs.set hx n h2⟩
/-- all plain -/
def unD : List DV → Option (List PyData)
  | [] => some []
  | .d x :: r => (unD r).map (x :: ·)
  | .ref _ :: _ => none
theorem RelDs.un : ∀ {xs : List DV} {ps : List PyData} {ys : List V}, unD xs = some ps → RelDs z S H xs ys → RelPs H (Live z S) ps ys
  | [], ps, ys, e, h => by
    cases e; unfold RelDs at h; subst h; exact RelPs.nil
  | .d x :: r, ps, ys, e, ⟨y, s, e1, h1, h2⟩ => by
    unfold unD at e
    cases q : unD r with
    | none => rw [q] at e; cases e
    | some l =>
      rw [q] at e; cases e; subst e1
      exact RelPs.cons h1 (RelDs.un q h2)
  | .ref _ :: _, ps, ys, e, h => by cases e

/-- a thing that is not live is laid: all else stands -/
theorem Rep.laid {p : Addr} {o : HO} (R : Rep z S H) (hp : H p = none) : Tr z S H z S (upd H p o) ∧ Rep z S (upd H p o) := by
  have t : Tr z S H z S (upd H p o) := ⟨Grow.refl _ _, Nat.le_refl _, fun _ _ => rfl, fun a u h _ => by rw [upd_ne (ne_of_none h hp)]; exact h, fun i h1 h2 => absurd h2 (by omega)⟩
  refine ⟨t, R.inj, R.nrz, fun a ha => ?_, fun i o' h => ?_⟩
  · by_cases e : a = p
    · subst e; exact absurd hp (R.trk a ha)
    · rw [upd_ne e]; exact R.trk a ha
  · have q := R.at_ i o' h
    have ne : z.ρ i ≠ p := fun e => by
      have hi : i < S.length := (List.getElem?_eq_some_iff.mp h).1
      exact R.tracked hi (by rw [e]; exact hp)
    cases o' with
    | lst xs => obtain ⟨ys, h1, h2⟩ := q; exact ⟨ys, by rw [upd_ne ne]; exact h1, h2.tr t⟩
    | box xs => obtain ⟨ys, h1, h2⟩ := q; exact ⟨ys, by rw [upd_ne ne]; exact h1, h2.tr t⟩
    | dT xs => obtain ⟨ys, h1, h2⟩ := q; exact ⟨ys, by rw [upd_ne ne]; exact h1, h2.tr t⟩
    | dK xs => obtain ⟨ys, h1, h2⟩ := q; exact ⟨ys, by rw [upd_ne ne]; exact h1, h2.tr t⟩
theorem Rep.notLive (R : Rep z S H) {p : Addr} (hp : H p = none) : ¬ Live z S p := by
  rintro (h | ⟨i, hi, e⟩)
  · exact R.trk p h hp
  · exact R.tracked hi (by rw [e]; exact hp)
end
end Ev
end
section
set_option maxRecDepth 100000
set_option maxHeartbeats 4000000
/-! EvSem: a small language and what it does, over plain values and a store. -/
namespace Ev
open PySem L2

inductive Res (α : Type) where
  | ok (v : α) (S : Sto)
  | err (c : String) (x : PyData) (S : Sto)
  | stuck
def Res.bind {α β : Type} (r : Res α) (f : α → Sto → Res β) : Res β := match r with
  | .ok v S => f v S
  | .err c x S => .err c x S
  | .stuck => .stuck
@[simp] theorem Res.bind_ok {α β : Type} (v : α) (S : Sto) (f : α → Sto → Res β) : (Res.ok v S).bind f = f v S := rfl
@[simp] theorem Res.bind_err {α β : Type} (c : String) (x : PyData) (S : Sto) (f : α → Sto → Res β) : (Res.err c x S : Res α).bind f = .err c x S := rfl
@[simp] theorem Res.bind_stuck {α β : Type} (f : α → Sto → Res β) : (Res.stuck : Res α).bind f = .stuck := rfl
/-- a partial answer that changes nothing -/
def ofO {α : Type} (o : Option α) (S : Sto) : Res α := match o with
  | some v => .ok v S
  | none => .stuck
@[simp] theorem ofO_some {α : Type} (v : α) (S : Sto) : ofO (some v) S = .ok v S := rfl
@[simp] theorem ofO_none {α : Type} (S : Sto) : ofO (none : Option α) S = .stuck := rfl
inductive SRes where
  | next (l : Loc) (S : Sto)
  | ret (v : DV) (S : Sto)
  | brk (l : Loc) (S : Sto)
  | cnt (l : Loc) (S : Sto)
  | err (c : String) (x : PyData) (l : Loc) (S : Sto)
  | stuck
def Res.st {α : Type} (r : Res α) (l : Loc) (f : α → Sto → SRes) : SRes := match r with
  | .ok v S => f v S
  | .err c x S => .err c x l S
  | .stuck => .stuck
@[simp] theorem Res.st_ok {α : Type} (v : α) (S : Sto) (l : Loc) (f : α → Sto → SRes) : (Res.ok v S).st l f = f v S := rfl
@[simp] theorem Res.st_err {α : Type} (c : String) (x : PyData) (S : Sto) (l : Loc) (f : α → Sto → SRes) : (Res.err c x S : Res α).st l f = .err c x l S := rfl
@[simp] theorem Res.st_stuck {α : Type} (l : Loc) (f : α → Sto → SRes) : (Res.stuck : Res α).st l f = .stuck := rfl
/-- then, where the way goes on -/
def SRes.seq (r : SRes) (f : Loc → Sto → SRes) : SRes := match r with
  | .next l S => f l S
  | .ret v S => .ret v S
  | .brk l S => .brk l S
  | .cnt l S => .cnt l S
  | .err c x l S => .err c x l S
  | .stuck => .stuck
@[simp] theorem SRes.seq_next (l : Loc) (S : Sto) (f : Loc → Sto → SRes) : (SRes.next l S).seq f = f l S := rfl
@[simp] theorem SRes.seq_ret (v : DV) (S : Sto) (f : Loc → Sto → SRes) : (SRes.ret v S).seq f = .ret v S := rfl
@[simp] theorem SRes.seq_brk (l : Loc) (S : Sto) (f : Loc → Sto → SRes) : (SRes.brk l S).seq f = .brk l S := rfl
@[simp] theorem SRes.seq_cnt (l : Loc) (S : Sto) (f : Loc → Sto → SRes) : (SRes.cnt l S).seq f = .cnt l S := rfl
@[simp] theorem SRes.seq_err (c : String) (x : PyData) (l : Loc) (S : Sto) (f : Loc → Sto → SRes) : (SRes.err c x l S).seq f = .err c x l S := rfl
@[simp] theorem SRes.seq_stuck (f : Loc → Sto → SRes) : SRes.stuck.seq f = .stuck := rfl

inductive Bin where | add | sub | mul | fdiv | mod | pow
inductive Cmp where | eq | ne | lt | le | gt | ge | isIn | notIn | isN | notN
/-- built-in functions by name; m: the new list is a mutable thing -/
inductive BI where
  | rangeList (m : Bool) | len | min2 | max2 | minL | maxL | minD | maxD | sum | all | any | listOf (m : Bool) | tupOf | sorted (m : Bool) | setOf | int | repr | isi (t : String) | sortSet (m : Bool)
inductive MM where | append | pop | popAt | extend | index
inductive TG where
  | name (i : Nat)
  | tup (is : List Nat)
mutual
inductive ME where
  | var (i : Nat)
  | lit (x : PyData)
  | bin (o : Bin) (a b : ME)
  | neg (a : ME)
  | not (a : ME)
  | and (a b : ME)
  | or (a b : ME)
  | cmp (o : Cmp) (a b : ME)
  | chain2 (a : ME) (o : Cmp) (b : ME) (o' : Cmp) (c : ME)
  | chain3 (a : ME) (o : Cmp) (b : ME) (o' : Cmp) (c : ME) (o'' : Cmp) (d : ME)
  | ite (t a b : ME)
  | tup (es : List ME)
  | lst (m : Bool) (es : List ME)
  | box (es : List ME)
  | ix (a i : ME)
  | sl (a : ME) (lo hi : Option ME)
  | rev (a : ME)
  | call (f : String) (es : List ME)
  | bi (b : BI) (es : List ME)
  | meth (b : MM) (o : ME) (es : List ME)
  | svals (m : Bool) (o : ME)
  | dict0
  | inD (neg : Bool) (a d : ME)
  | sortK (m : Bool) (f : String) (e : ME)
  | comp (m : Bool) (own : List Nat) (t : TG) (it : IT) (c : Option ME) (e : ME)
inductive IT where
  | seq (e : ME)
  | range1 (a : ME)
  | range2 (a b : ME)
  | enum (e : ME)
  | zip (a b : ME)
end
inductive MS where
  | set (i : Nat) (e : ME)
  | unpack (is : List Nat) (e : ME)
  | par (is : List Nat) (es : List ME)
  | setIx (o i e : ME)
  | par2S (o i o' i' e e' : ME)
  | expr (e : ME)
  | ite (t : ME) (a b : List MS)
  | forS (t : TG) (it : IT) (body : List MS)
  | whileS (t : ME) (body : List MS)
  | ret (e : ME)
  | retN
  | raise (c : String) (e : ME)
  | brk | cnt | pass | dead

/-! ### values -/
mutual
def same : PyData → PyData → Bool
  | .none, .none => true
  | .bool a, .bool b => a == b
  | .int a, .int b => a == b
  | .str a, .str b => decide (a = b)
  | .list xs, .list ys => sames xs ys
  | .tuple xs, .tuple ys => sames xs ys
  | .dict xs, .dict ys => sameKv xs ys
  | _, _ => false
def sames : List PyData → List PyData → Bool
  | [], [] => true
  | x :: xs, y :: ys => same x y && sames xs ys
  | _, _ => false
def sameKv : List (PyData × PyData) → List (PyData × PyData) → Bool
  | [], [] => true
  | (k, v) :: xs, (k', v') :: ys => same k k' && same v v' && sameKv xs ys
  | _, _ => false
end
mutual
theorem same_eq : ∀ {x y : PyData}, same x y = true → x = y
  | .none, y, h => by cases y <;> simp_all [same]
  | .bool a, y, h => by cases y <;> simp_all [same]
  | .int a, y, h => by cases y <;> simp_all [same]
  | .str a, y, h => by cases y <;> simp_all [same]
  | .list xs, y, h => by
    cases y <;> simp [same] at h
    rw [sames_eq h]
  | .tuple xs, y, h => by
    cases y <;> simp [same] at h
    rw [sames_eq h]
  | .dict xs, y, h => by
    cases y <;> simp [same] at h
    rw [sameKv_eq h]
theorem sames_eq : ∀ {x y : List PyData}, sames x y = true → x = y
  | [], y, h => by cases y <;> simp_all [sames]
  | a :: xs, y, h => by
    cases y with
    | nil => simp [sames] at h
    | cons b ys =>
      simp [sames] at h
      rw [same_eq h.1, sames_eq h.2]
theorem sameKv_eq : ∀ {x y : List (PyData × PyData)}, sameKv x y = true → x = y
  | [], y, h => by cases y <;> simp_all [sameKv]
  | (a, b) :: xs, y, h => by
    cases y with
    | nil => simp [sameKv] at h
    | cons c ys =>
      obtain ⟨c1, c2⟩ := c
      simp [sameKv] at h
      rw [same_eq h.1.1, same_eq h.1.2, sameKv_eq h.2]
end
mutual
theorem same_refl : ∀ x : PyData, same x x = true
  | .none => by simp [same]
  | .bool a => by simp [same]
  | .int a => by simp [same]
  | .str a => by simp [same]
  | .list xs => by simp [same, sames_refl xs]
  | .tuple xs => by simp [same, sames_refl xs]
  | .dict xs => by simp [same, sameKv_refl xs]
theorem sames_refl : ∀ x : List PyData, sames x x = true
  | [] => by simp [sames]
  | a :: xs => by simp [sames, same_refl a, sames_refl xs]
theorem sameKv_refl : ∀ x : List (PyData × PyData), sameKv x x = true
  | [] => by simp [sameKv]
  | (a, b) :: xs => by simp [sameKv, same_refl a, same_refl b, sameKv_refl xs]
end
/-- read as plain data -/
def asP (S : Sto) : DV → Option PyData
  | .d x => some x
  | .ref i => match S[i]? with
    | some (.lst xs) => some (.list xs)
    | _ => none
@[simp] theorem asP_d (S : Sto) (x : PyData) : asP S (.d x) = some x := rfl
def seqP : PyData → Option (List PyData)
  | .list xs => some xs
  | .tuple xs => some xs
  | _ => none
def LIM : Nat := 1000000
def truthP : PyData → Option Bool
  | .none => some false
  | .bool b => some b
  | .int i => some (i != 0)
  | .list xs => some (!xs.isEmpty)
  | .tuple xs => some (!xs.isEmpty)
  | _ => none
def binP : Bin → PyData → PyData → Option PyData
  | .add, .int a, .int b => some (.int (a + b))
  | .add, .list xs, .list ys => if xs.length + ys.length ≤ LIM then some (.list (xs ++ ys)) else none
  | .add, .tuple xs, .tuple ys => if xs.length + ys.length ≤ LIM then some (.tuple (xs ++ ys)) else none
  | .sub, .int a, .int b => some (.int (a - b))
  | .mul, .int a, .int b => if (-(2 ^ 64) < a ∧ a < 2 ^ 64) ∨ (-(2 ^ 64) < b ∧ b < 2 ^ 64) then some (.int (a * b)) else none
  | .fdiv, .int a, .int b => if b ≠ 0 ∧ b.natAbs < 1073741824 then some (.int (a.fdiv b)) else none
  | .mod, .int a, .int b => if b ≠ 0 then some (.int (a.fmod b)) else none
  | .pow, .int a, .int b => if 0 ≤ b ∧ b ≤ 1000000 ∧ a.natAbs < 2 ^ 64 then some (.int (a ^ b.toNat)) else none
  | _, _, _ => none
def intsOf : List PyData → Option (List Int)
  | [] => some []
  | .int i :: r => (intsOf r).map (i :: ·)
  | _ :: _ => none
/-- order of tuples of ints -/
def lexLt : List Int → List Int → Bool
  | [], [] => false
  | [], _ :: _ => true
  | _ :: _, [] => false
  | x :: xs, y :: ys => if x = y then lexLt xs ys else decide (x < y)
def lexLe : List Int → List Int → Bool
  | [], _ => true
  | _ :: _, [] => false
  | x :: xs, y :: ys => if x = y then lexLe xs ys else decide (x < y)
def cmpP : Cmp → PyData → PyData → Option Bool
  | .eq, x, y => if SeqAt.shaped x = true ∧ SeqAt.shaped y = true then some (PyData.eqv x y) else none
  | .ne, x, y => if SeqAt.shaped x = true ∧ SeqAt.shaped y = true then some (!PyData.eqv x y) else none
  | .lt, .int a, .int b => some (decide (a < b))
  | .le, .int a, .int b => some (decide (a ≤ b))
  | .gt, .int a, .int b => some (decide (b < a))
  | .ge, .int a, .int b => some (decide (b ≤ a))
  | .le, .tuple xs, .tuple ys => (match intsOf xs, intsOf ys with
    | some a, some b => some (lexLe a b)
    | _, _ => none)
  | .isIn, x, .list ys => if SeqAt.shaped x = true ∧ SeqAt.shaped (.list ys) = true then some (ys.any fun y => PyData.eqv y x) else none
  | .notIn, x, .list ys => if SeqAt.shaped x = true ∧ SeqAt.shaped (.list ys) = true then some (!ys.any fun y => PyData.eqv y x) else none
  | .isN, x, .none => some (match x with
    | .none => true
    | _ => false)
  | .notN, x, .none => some (match x with
    | .none => false
    | _ => true)
  | _, _, _ => none
/-- the items from lo to hi -/
def cutP (xs : List PyData) (lo hi : Option Int) : List PyData := (xs.drop (HT.sIx xs.length 0 lo)).take (HT.sIx xs.length xs.length hi - HT.sIx xs.length 0 lo)
/-- an item, by an index of any sign -/
def ixP : PyData → PyData → Option PyData
  | .list xs, .int i => atI xs i
  | .tuple xs, .int i => atI xs i
  | _, _ => none
/-- a new list: plain, or a mutable thing -/
def mkL (m : Bool) (xs : List PyData) (S : Sto) : Res DV := if m then .ok (.ref S.length) (S ++ [.lst xs]) else .ok (.d (.list xs)) S
@[simp] theorem mkL_f (xs : List PyData) (S : Sto) : mkL false xs S = .ok (.d (.list xs)) S := rfl
@[simp] theorem mkL_t (xs : List PyData) (S : Sto) : mkL true xs S = .ok (.ref S.length) (S ++ [.lst xs]) := rfl
def isInt : PyData → Bool
  | .int _ => true
  | .bool _ => true
  | _ => false
def isiP : String → PyData → Option Bool
  | "int", .int _ => some true
  | "int", .bool _ => some true
  | "int", _ => some false
  | "bool", .bool _ => some true
  | "bool", _ => some false
  | "tuple", .tuple _ => some true
  | "tuple", _ => some false
  | _, _ => none
def sumI : List PyData → Option Int
  | [] => some 0
  | .int i :: r => (sumI r).map (i + ·)
  | _ :: _ => none
def maxI : List Int → Option Int
  | [] => none
  | x :: r => some (r.foldl (fun a b => if b > a then b else a) x)
def minI : List Int → Option Int
  | [] => none
  | x :: r => some (r.foldl (fun a b => if b < a then b else a) x)
def boolsOf : List PyData → Option (List Bool)
  | [] => some []
  | .bool i :: r => (boolsOf r).map (i :: ·)
  | _ :: _ => none
def tupNE : PyData → Bool
  | .tuple (_ :: _) => true
  | _ => false
def noTup : PyData → Bool
  | .none => false
  | .tuple _ => false
  | _ => true
/-- what the order of sorted is known of -/
def sortOk (ks : List PyData) : Bool := (ks.all fun x => ks.all fun y => PySem.W.alike x y) && (ks.all tupNE || ks.all noTup) && (ks.all fun x => decide (x.depth ≤ 8))
def sortedP (xs : List PyData) : Option (List PyData) := if sortOk xs = true ∧ xs.length ≤ LIM then some (xs.mergeSort (PySem.W.dataLe false id)) else none
/-- by keys that stand beside -/
def sortedK (xs : List (PyData × PyData)) : Option (List PyData) := if sortOk (xs.map (·.2)) = true ∧ xs.length ≤ LIM then some ((xs.mergeSort (PySem.W.dataLe false (·.2))).map (·.1)) else none
def rangeP (lo hi : Int) : List PyData := (List.range (hi - lo).toNat).map fun (k : Nat) => .int (lo + (k : Int))
def on1 (vs : List DV) (f : DV → Res DV) : Res DV := match vs with
  | [v] => f v
  | _ => .stuck
def ints2 (vs : List DV) (S : Sto) (f : Int → Int → Res DV) : Res DV := match vs with
  | [v, w] => (match asP S v, asP S w with
    | some (.int a), some (.int b) => f a b
    | _, _ => .stuck)
  | _ => .stuck
/-- the items of a list -/
def lstP (S : Sto) (v : DV) : Option (List PyData) := match asP S v with
  | some (.list xs) => some xs
  | _ => none
def seqV (S : Sto) (v : DV) : Option (List PyData) := (asP S v).bind seqP
def bLen (S : Sto) (v : DV) : Res DV := ofO ((seqV S v).map fun xs => .d (.int xs.length)) S
def intsV (S : Sto) (v : DV) : Option (List Int) := (lstP S v).bind intsOf
def bRepr (S : Sto) (v : DV) : Res DV := match asP S v with
  | some x => if x.showable = true ∧ x.hasDict = false ∧ x.depth ≤ 64 ∧ x.shown.length ≤ sizeLine then .ok (.d (.str x.shown)) S else .stuck
  | none => .stuck
def bInt (S : Sto) (v : DV) : Res DV := match asP S v with
  | some (.int i) => .ok (.d (.int i)) S
  | some (.bool b) => .ok (.d (.int (if b then 1 else 0))) S
  | _ => .stuck
def bDef (S : Sto) (vs : List DV) (f : List Int → Option Int) : Res DV := match vs with
  | [v, .d w] => ofO ((intsV S v).map fun is => match f is with
    | some i => .d (.int i)
    | none => .d w) S
  | _ => .stuck
def bNew (m : Bool) (o : Option (List PyData)) (S : Sto) : Res DV := match o with
  | some xs => mkL m xs S
  | none => .stuck
def bRange (m : Bool) (S : Sto) (v : DV) : Res DV := match asP S v with
  | some (.int i) => if i ≤ (LIM : Int) ∧ -(2 ^ 62) ≤ i then mkL m (rangeP 0 i) S else .stuck
  | _ => .stuck
/-- put into a rising list -/
def insS (k : Int) : List Int → List Int
  | [] => [k]
  | x :: r => if k < x then k :: x :: r else if k = x then x :: r else x :: insS k r
/-- the unlike ones of them, rising -/
def setSort : List Int → List Int
  | [] => []
  | x :: r => insS x (setSort r)
def biP (b : BI) (vs : List DV) (S : Sto) : Res DV := match b with
  | .rangeList m => on1 vs (bRange m S)
  | .len => on1 vs (bLen S)
  | .min2 => ints2 vs S fun a b => .ok (.d (.int (if b < a then b else a))) S
  | .max2 => ints2 vs S fun a b => .ok (.d (.int (if b > a then b else a))) S
  | .maxL => on1 vs fun v => ofO ((intsV S v).bind fun is => (maxI is).map fun i => .d (.int i)) S
  | .minL => on1 vs fun v => ofO ((intsV S v).bind fun is => (minI is).map fun i => .d (.int i)) S
  | .maxD => bDef S vs maxI
  | .minD => bDef S vs minI
  | .sum => on1 vs fun v => ofO ((lstP S v).bind fun xs => (sumI xs).map fun i => .d (.int i)) S
  | .all => on1 vs fun v => ofO ((lstP S v).bind fun xs => (boolsOf xs).map fun bs => .d (.bool (bs.all id))) S
  | .any => on1 vs fun v => ofO ((lstP S v).bind fun xs => (boolsOf xs).map fun bs => .d (.bool (bs.any id))) S
  | .listOf m => on1 vs fun v => bNew m (seqV S v) S
  | .tupOf => on1 vs fun v => ofO ((seqV S v).map fun xs => .d (.tuple xs)) S
  | .sorted m => on1 vs fun v => bNew m ((seqV S v).bind sortedP) S
  | .int => on1 vs (bInt S)
  | .repr => on1 vs (bRepr S)
  | .isi t => on1 vs fun v => ofO ((asP S v).bind fun p => (isiP t p).map fun b => .d (.bool b)) S
  | .setOf => .stuck
  | .sortSet m => on1 vs fun v => bNew m ((intsV S v).bind fun is => if is.length < 60 then some ((setSort is).map .int) else none) S
/-- a list as a mutable thing -/
def lstAt (S : Sto) (i : Nat) : Option (List PyData) := match S[i]? with
  | some (.lst xs) => some xs
  | _ => none
def mAppend (S : Sto) (i : Nat) (xs : List PyData) (vs : List DV) : Res DV := match vs with
  | [.d x] => if xs.length < LIM then .ok (.d .none) (S.set i (.lst (xs ++ [x]))) else .stuck
  | _ => .stuck
def mPop (S : Sto) (i : Nat) (xs : List PyData) (vs : List DV) : Res DV := match vs with
  | [] => (match xs[xs.length - 1]? with
    | some x => .ok (.d x) (S.set i (.lst xs.dropLast))
    | none => .stuck)
  | _ => .stuck
def mPopAt (S : Sto) (i : Nat) (xs : List PyData) (vs : List DV) : Res DV := match vs with
  | [.d (.int k)] => (match xs[k.toNat]? with
    | some x => if 0 ≤ k ∧ k < 2 ^ 63 then .ok (.d x) (S.set i (.lst (xs.eraseIdx k.toNat))) else .stuck
    | none => .stuck)
  | _ => .stuck
def mExtend (S : Sto) (i : Nat) (xs : List PyData) (vs : List DV) : Res DV := match vs with
  | [.d (.list ys)] => if xs.length + ys.length ≤ LIM then .ok (.d .none) (S.set i (.lst (xs ++ ys))) else .stuck
  | _ => .stuck
/-- where a number stands first in a list of ints -/
def mIndex (S : Sto) (xs : List PyData) (vs : List DV) : Res DV := match vs with
  | [.d (.int k)] => (match intsOf xs with
    | some is => (match is.findIdx? (fun x => decide (x = k)) with
      | some j => .ok (.d (.int (j : Nat))) S
      | none => .stuck)
    | none => .stuck)
  | _ => .stuck
/-- a key that is a tuple of ints, in a dict -/
def lookT (kvs : List (List Int × PyData)) (k : List Int) : Option PyData := (kvs.find? fun kv => decide (kv.1 = k)).map (·.2)
def putT (kvs : List (List Int × PyData)) (k : List Int) (v : PyData) : List (List Int × PyData) :=
  if (kvs.any fun kv => decide (kv.1 = k)) = true then kvs.map (fun kv => if kv.1 = k then (kv.1, v) else kv) else kvs ++ [(k, v)]
def mVals (m : Bool) (S : Sto) (i : Nat) : Res DV := match S[i]? with
  | some (.dT kvs) => bNew m (sortedP (kvs.map (·.2))) S
  | _ => .stuck
def methP (b : MM) (o : DV) (vs : List DV) (S : Sto) : Res DV := match o with
  | .d _ => .stuck
  | .ref i => (match b with
    | .append => (match lstAt S i with
      | some xs => mAppend S i xs vs
      | none => .stuck)
    | .pop => (match lstAt S i with
      | some xs => mPop S i xs vs
      | none => .stuck)
    | .popAt => (match lstAt S i with
      | some xs => mPopAt S i xs vs
      | none => .stuck)
    | .extend => (match lstAt S i with
      | some xs => mExtend S i xs vs
      | none => .stuck)
    | .index => (match lstAt S i with
      | some xs => mIndex S xs vs
      | none => .stuck))
/-- the receiver is a mutable list -/
def recv (o : DV) (S : Sto) : Bool := match o with
  | .d _ => false
  | .ref i => (lstAt S i).isSome

/-! ### what is walked -/
structure Items where
  xs : List PyData
  src : Option Nat
/-- the list that is walked stands as it stood -/
def still (w : Items) (S : Sto) : Bool := match w.src with
  | none => true
  | some i => (match S[i]? with
    | some (.lst ys) => sames ys w.xs
    | _ => false)
def itemsOf (S : Sto) : DV → Option Items
  | .d x => (seqP x).map fun xs => ⟨xs, none⟩
  | .ref i => (lstAt S i).map fun xs => ⟨xs, some i⟩
def enumF : Nat → List PyData → List PyData
  | _, [] => []
  | n, x :: r => .tuple [.int n, x] :: enumF (n + 1) r
def enumOf : DV → Option Items
  | .d x => (seqP x).map fun xs => ⟨enumF 0 xs, none⟩
  | .ref _ => none
def setAll (l : Loc) : List Nat → List PyData → Option Loc
  | [], [] => some l
  | i :: is, x :: xs => setAll (l.set i (some (.d x))) is xs
  | _, _ => none
def bindT (t : TG) (x : PyData) (l : Loc) : Option Loc := match t with
  | .name i => some (l.set i (some (.d x)))
  | .tup is => (match x with
    | .tuple xs => setAll l is xs
    | _ => none)
def wipeL (l : Loc) : List Nat → Loc
  | [] => l
  | v :: vs => (wipeL l vs).set v none
def pushO (acc : List PyData) : Option PyData → List PyData
  | some y => acc ++ [y]
  | none => acc
def compLoop (w : Items) (f : PyData → Sto → Res (Option PyData)) : List PyData → List PyData → Sto → Res (List PyData)
  | [], acc, S => .ok acc S
  | x :: r, acc, S => (f x S).bind fun y S1 => if still w S1 = true then compLoop w f r (pushO acc y) S1 else .stuck
def plain (v : DV) (S : Sto) : Res PyData := match v with
  | .d x => .ok x S
  | .ref _ => .stuck
@[simp] theorem plain_d (x : PyData) (S : Sto) : plain (.d x) S = .ok x S := rfl
/-- a turn of a comprehension -/
def compF (c : Loc → Sto → Res Bool) (e : Loc → Sto → Res DV) (t : TG) (l : Loc) (x : PyData) (S : Sto) : Res (Option PyData) :=
  match bindT t x l with
  | none => .stuck
  | some l2 => (c l2 S).bind fun k S1 => if k then (e l2 S1).bind fun v S2 => (plain v S2).bind fun y S3 => .ok (some y) S3 else .ok none S1
def forLoop (w : Items) (f : PyData → Loc → Sto → SRes) : List PyData → Loc → Sto → SRes
  | [], l, S => .next l S
  | x :: r, l, S => match f x l S with
    | .next l1 S1 => if still w S1 = true then forLoop w f r l1 S1 else .stuck
    | .cnt l1 S1 => if still w S1 = true then forLoop w f r l1 S1 else .stuck
    | .brk l1 S1 => .next l1 S1
    | .ret v S1 => .ret v S1
    | .err c x l1 S1 => .err c x l1 S1
    | .stuck => .stuck
def whileLoop (t : Loc → Sto → Res Bool) (f : Loc → Sto → SRes) : Nat → Loc → Sto → SRes
  | 0, _, _ => .stuck
  | n + 1, l, S => (t l S).st l fun b S1 => if b = true then (match f l S1 with
    | .next l1 S2 => whileLoop t f n l1 S2
    | .cnt l1 S2 => whileLoop t f n l1 S2
    | .brk l1 S2 => .next l1 S2
    | .ret v S2 => .ret v S2
    | .err c x l1 S2 => .err c x l1 S2
    | .stuck => .stuck) else .next l S1
/-- a dict with keys that are tuples -/
def dictAt (S : Sto) : DV → Option (List (List Int × PyData))
  | .d _ => none
  | .ref i => match S[i]? with
    | some (.dT kvs) => some kvs
    | _ => none
def keyT : PyData → Option (List Int)
  | .tuple xs => intsOf xs
  | _ => none
abbrev Calls := String → List DV → Sto → Res DV
/-- what an own function tells of each item; it leaves no thing behind -/
def keysOf (C : Calls) (f : String) : List PyData → Sto → Option (List PyData)
  | [], _ => some []
  | x :: r, S => match C f [.d x] [] with
    | .ok (.d k) [] => (keysOf C f r S).map (k :: ·)
    | _ => none
/-- an error's way out of a comprehension is not looked at -/
def noErr {α : Type} (r : Res α) : Res α := match r with
  | .ok v S => .ok v S
  | _ => .stuck
@[simp] theorem noErr_ok {α : Type} (v : α) (S : Sto) : noErr (.ok v S) = .ok v S := rfl
def getV (l : Loc) (i : Nat) : Option DV := match l[i]? with
  | some (some v) => some v
  | _ => none
mutual
def evalE (C : Calls) : ME → Loc → Sto → Res DV
  | .var i, l, S => ofO (getV l i) S
  | .lit x, _, S => .ok (.d x) S
  | .bin o a b, l, S => (evalE C a l S).bind fun x S1 => (evalE C b l S1).bind fun y S2 => ofO ((asP S2 x).bind fun p => (asP S2 y).bind fun q => (binP o p q).map .d) S2
  | .neg a, l, S => (evalE C a l S).bind fun x S1 => (match x with
    | .d (.int i) => .ok (.d (.int (-i))) S1
    | _ => .stuck)
  | .not a, l, S => (evalE C a l S).bind fun x S1 => (match x with
    | .d (.bool b) => .ok (.d (.bool (!b))) S1
    | _ => .stuck)
  | .and a b, l, S => (evalE C a l S).bind fun x S1 => (match x with
    | .d (.bool true) => evalE C b l S1
    | .d (.bool false) => .ok (.d (.bool false)) S1
    | _ => .stuck)
  | .or a b, l, S => (evalE C a l S).bind fun x S1 => (match x with
    | .d (.bool false) => evalE C b l S1
    | .d (.bool true) => .ok (.d (.bool true)) S1
    | _ => .stuck)
  | .cmp o a b, l, S => (evalE C a l S).bind fun x S1 => (evalE C b l S1).bind fun y S2 => ofO ((asP S2 x).bind fun p => (asP S2 y).bind fun q => (cmpP o p q).map fun b => .d (.bool b)) S2
  | .chain2 a o b o' c, l, S => (evalE C a l S).bind fun x S1 => (evalE C b l S1).bind fun y S2 => (ofO ((asP S2 x).bind fun p => (asP S2 y).bind fun q => cmpP o p q) S2).bind fun k S3 =>
      if k then (evalE C c l S3).bind fun w S4 => ofO ((asP S4 y).bind fun p => (asP S4 w).bind fun q => (cmpP o' p q).map fun b => .d (.bool b)) S4 else .ok (.d (.bool false)) S3
  | .chain3 a o b o' c o'' d, l, S => (evalE C a l S).bind fun x S1 => (evalE C b l S1).bind fun y S2 => (ofO ((asP S2 x).bind fun p => (asP S2 y).bind fun q => cmpP o p q) S2).bind fun k S3 =>
      if k then (evalE C c l S3).bind fun w S4 => (ofO ((asP S4 y).bind fun p => (asP S4 w).bind fun q => cmpP o' p q) S4).bind fun k' S5 =>
        if k' then (evalE C d l S5).bind fun u S6 => ofO ((asP S6 w).bind fun p => (asP S6 u).bind fun q => (cmpP o'' p q).map fun b => .d (.bool b)) S6 else .ok (.d (.bool false)) S5
      else .ok (.d (.bool false)) S3
  | .ite t a b, l, S => (evalT C t l S).bind fun k S1 => if k then evalE C a l S1 else evalE C b l S1
  | .tup es, l, S => (evalEs C es l S).bind fun vs S1 => ofO ((unD vs).map fun ps => .d (.tuple ps)) S1
  | .lst m es, l, S => (evalEs C es l S).bind fun vs S1 => (match unD vs with
    | some ps => mkL m ps S1
    | none => .stuck)
  | .box es, l, S => (evalEs C es l S).bind fun vs S1 => .ok (.ref S1.length) (S1 ++ [.box vs])
  | .ix a i, l, S => (evalE C a l S).bind fun x S1 => (evalE C i l S1).bind fun y S2 => (match x, y with
    | .ref j, .d (.int k) => (match S2[j]? with
      | some (.box vs) => ofO (atI vs k) S2
      | some (.lst xs) => ofO ((atI xs k).map .d) S2
      | _ => .stuck)
    | .d p, .d q => ofO ((ixP p q).map .d) S2
    | _, _ => .stuck)
  | .sl a lo hi, l, S => (evalE C a l S).bind fun x S1 => (evalO C lo l S1).bind fun p S2 => (evalO C hi l S2).bind fun q S3 => (match asP S3 x with
    | some (.list xs) => .ok (.d (.list (cutP xs p q))) S3
    | some (.tuple xs) => .ok (.d (.tuple (cutP xs p q))) S3
    | _ => .stuck)
  | .rev a, l, S => (evalE C a l S).bind fun x S1 => (match asP S1 x with
    | some (.list xs) => .ok (.d (.list xs.reverse)) S1
    | some (.tuple xs) => .ok (.d (.tuple xs.reverse)) S1
    | _ => .stuck)
  | .call f es, l, S => (evalEs C es l S).bind fun vs S1 => C f vs S1
  | .bi b es, l, S => (evalEs C es l S).bind fun vs S1 => biP b vs S1
  | .meth b o es, l, S => (evalE C o l S).bind fun x S1 => if recv x S1 = true then (evalEs C es l S1).bind fun vs S2 => methP b x vs S2 else .stuck
  | .svals m o, l, S => (evalE C o l S).bind fun x S1 => (match x with
    | .ref i => mVals m S1 i
    | _ => .stuck)
  | .dict0, _, S => .ok (.ref S.length) (S ++ [.dT []])
  | .inD neg a d, l, S => (evalE C a l S).bind fun x S1 => (evalE C d l S1).bind fun y S2 => ofO ((dictAt S2 y).bind fun kvs => (asP S2 x).bind fun p => (keyT p).map fun k => .d (.bool (if neg then (lookT kvs k).isNone else (lookT kvs k).isSome))) S2
  | .sortK m f e, l, S => (evalE C e l S).bind fun x S1 => (match seqV S1 x with
    | some xs => (match keysOf C f xs S1 with
      | some ks => bNew m (sortedK (xs.zip ks)) S1
      | none => .stuck)
    | none => .stuck)
  | .comp m own t it c e, l, S => (evalI C it l S).bind fun w S1 => if w.xs.length ≤ LIM then
      (noErr (compLoop w (compF (fun l2 S2 => evalC C c l2 S2) (fun l2 S2 => evalE C e l2 S2) t (wipeL l own)) w.xs [] S1)).bind fun ys S7 => mkL m ys S7 else .stuck
def evalEs (C : Calls) : List ME → Loc → Sto → Res (List DV)
  | [], _, S => .ok [] S
  | e :: es, l, S => (evalE C e l S).bind fun v S1 => (evalEs C es l S1).bind fun vs S2 => .ok (v :: vs) S2
def evalT (C : Calls) : ME → Loc → Sto → Res Bool
  | .and a b, l, S => (evalT C a l S).bind fun k S1 => if k then evalT C b l S1 else .ok false S1
  | .or a b, l, S => (evalT C a l S).bind fun k S1 => if k then .ok true S1 else evalT C b l S1
  | .not a, l, S => (evalT C a l S).bind fun k S1 => .ok (!k) S1
  | e, l, S => (evalE C e l S).bind fun v S1 => ofO ((asP S1 v).bind truthP) S1
def evalC (C : Calls) : Option ME → Loc → Sto → Res Bool
  | none, _, S => .ok true S
  | some t, l, S => evalT C t l S
def evalO (C : Calls) : Option ME → Loc → Sto → Res (Option Int)
  | none, _, S => .ok none S
  | some e, l, S => (evalE C e l S).bind fun v S1 => (match v with
    | .d (.int i) => .ok (some i) S1
    | _ => .stuck)
def evalI (C : Calls) : IT → Loc → Sto → Res Items
  | .seq e, l, S => (evalE C e l S).bind fun v S1 => ofO (itemsOf S1 v) S1
  | .range1 a, l, S => (evalE C a l S).bind fun v S1 => (match v with
    | .d (.int i) => if -(2 ^ 62) ≤ i ∧ i < (LIM : Int) then .ok ⟨rangeP 0 i, none⟩ S1 else .stuck
    | _ => .stuck)
  | .range2 a b, l, S => (evalE C a l S).bind fun v S1 => (evalE C b l S1).bind fun w S2 => (match v, w with
    | .d (.int i), .d (.int j) => if (-(2 ^ 62) ≤ i ∧ i < 2 ^ 62) ∧ (-(2 ^ 62) ≤ j ∧ j < 2 ^ 62) ∧ j - i < (LIM : Int) then .ok ⟨rangeP i j, none⟩ S2 else .stuck
    | _, _ => .stuck)
  | .enum e, l, S => (evalE C e l S).bind fun v S1 => ofO (enumOf v) S1
  | .zip a b, _, _ => .stuck
end

/-! ### statements -/
def setAllD (l : Loc) : List Nat → List DV → Option Loc
  | [], [] => some l
  | i :: is, x :: xs => setAllD (l.set i (some x)) is xs
  | _, _ => none
/-- o[k] = v -/
def putInt (S : Sto) (i : Nat) (j : Int) (v : DV) : Option Sto := match S[i]? with
  | some (.lst xs) => (match v with
    | .d x => (ixN xs.length j).map fun n => S.set i (.lst (xs.set n x))
    | .ref _ => none)
  | some (.box xs) => (ixN xs.length j).map fun n => S.set i (.box (xs.set n v))
  | _ => none
def putTup (S : Sto) (i : Nat) (ks : List PyData) (v : DV) : Option Sto := match v with
  | .ref _ => none
  | .d x => (match S[i]? with
    | some (.dT kvs) => if kvs.length < LIM then (intsOf ks).map fun k => S.set i (.dT (putT kvs k x)) else none
    | _ => none)
def putIx (S : Sto) (o k v : DV) : Option Sto := match o with
  | .d _ => none
  | .ref i => (match k with
    | .ref _ => none
    | .d p => (match p with
      | .int j => putInt S i j v
      | .tuple ks => putTup S i ks v
      | _ => none))
def unpackV (l : Loc) (is : List Nat) (v : DV) : Option Loc := match v with
  | .d (.tuple xs) => setAll l is xs
  | _ => none
def ofOS (o : Option Loc) (S : Sto) : SRes := match o with
  | some l => .next l S
  | none => .stuck
def forF (f : Loc → Sto → SRes) (t : TG) (x : PyData) (l : Loc) (S : Sto) : SRes := match bindT t x l with
  | none => .stuck
  | some l2 => f l2 S
/-- o[i] = v, o and i found behind v -/
def putS (C : Calls) (o i : ME) (v : DV) (l : Loc) (S : Sto) (k : Sto → SRes) : SRes := (evalE C o l S).st l fun x S1 => (evalE C i l S1).st l fun q S2 => (match putIx S2 x q v with
  | some S3 => k S3
  | none => .stuck)
mutual
def evalS (C : Calls) (n : Nat) : MS → Loc → Sto → SRes
  | .set i e, l, S => (evalE C e l S).st l fun v S1 => .next (l.set i (some v)) S1
  | .unpack is e, l, S => (evalE C e l S).st l fun v S1 => ofOS (unpackV l is v) S1
  | .par is es, l, S => (evalEs C es l S).st l fun vs S1 => ofOS (setAllD l is vs) S1
  | .setIx o i e, l, S => (evalE C e l S).st l fun v S1 => (evalE C o l S1).st l fun x S2 => (evalE C i l S2).st l fun k S3 => (match putIx S3 x k v with
    | some S4 => .next l S4
    | none => .stuck)
  | .par2S o i o' i' e e', l, S => (evalEs C [e, e'] l S).st l fun vs S2 => (match vs with
    | [v, w] => putS C o i v l S2 fun S3 => putS C o' i' w l S3 fun S4 => .next l S4
    | _ => .stuck)
  | .expr e, l, S => (evalE C e l S).st l fun _ S1 => .next l S1
  | .ite t a b, l, S => (evalT C t l S).st l fun k S1 => if k = true then evalSs C n a l S1 else evalSs C n b l S1
  | .forS t it body, l, S => (evalI C it l S).st l fun w S1 => forLoop w (forF (fun l2 S2 => evalSs C n body l2 S2) t) w.xs l S1
  | .whileS t body, l, S => whileLoop (fun l2 S2 => evalT C t l2 S2) (fun l2 S2 => evalSs C n body l2 S2) n l S
  | .ret e, l, S => (evalE C e l S).st l fun v S1 => .ret v S1
  | .retN, _, S => .ret (.d .none) S
  | .raise c e, l, S => (evalE C e l S).st l fun v S1 => (match v with
    | .d x => .err c x l S1
    | .ref _ => .stuck)
  | .brk, l, S => .brk l S
  | .cnt, l, S => .cnt l S
  | .pass, l, S => .next l S
  | .dead, _, _ => .stuck
def evalSs (C : Calls) (n : Nat) : List MS → Loc → Sto → SRes
  | [], l, S => .next l S
  | s :: r, l, S => (evalS C n s l S).seq fun l1 S1 => evalSs C n r l1 S1
end
/-! ### functions -/
structure Fn where
  np : Nat
  ns : Nat
  keep : Bool
  body : List MS
/-- what is handed back: a list of the function's own is plain from now on -/
def handBack (n : Nat) (S : Sto) : DV → Option DV
  | .d x => some (.d x)
  | .ref i => if i < n then some (.ref i) else match S[i]? with
    | some (.lst xs) => some (.d (.list xs))
    | _ => none
/-- things of the caller's name no thing of the function's -/
def closedB (n : Nat) (S : Sto) : Bool := S.all fun o => match o with
  | .box vs => vs.all fun v => match v with
    | .ref i => decide (i < n)
    | .d _ => true
  | _ => true
/-- from a body's end to what the caller gets -/
def outF (keep : Bool) (n : Nat) (r : SRes) : Res DV := match r with
  | .ret v S1 => if keep = true then .ok v S1 else if closedB n (S1.take n) = true then (match handBack n S1 v with
    | some w => .ok w (S1.take n)
    | none => .stuck) else .stuck
  | .next _ S1 => if closedB n (S1.take n) = true then .ok (.d .none) (S1.take n) else .stuck
  | .err c x _ S1 => if closedB n (S1.take n) = true then .err c x (S1.take n) else .stuck
  | .brk _ _ => .stuck
  | .cnt _ _ => .stuck
  | .stuck => .stuck
def startL (fn : Fn) (args : List DV) : Loc := args.map some ++ List.replicate (fn.ns - args.length) none
def callF (T : String → Option Fn) (wn : Nat) : Nat → Calls
  | 0, _, _, _ => .stuck
  | d + 1, f, args, S => match T f with
    | none => .stuck
    | some fn => if args.length = fn.np then outF fn.keep S.length (evalSs (callF T wn d) wn fn.body (startL fn args) S) else .stuck
theorem callF_eq {T : String → Option Fn} {wn d : Nat} {f : String} {fn : Fn} {args : List DV} {S : Sto} (h : T f = some fn) (hl : args.length = fn.np) :
    callF T wn (d + 1) f args S = outF fn.keep S.length (evalSs (callF T wn d) wn fn.body (startL fn args) S) := by
  rw [callF, h]
  exact if_pos hl
end Ev
end
section
set_option maxRecDepth 100000
set_option maxHeartbeats 4000000
/-! EvR1: readings by what evalE does; expressions. -/
namespace Ev
open PySem PySem.Spec PyProof.Rows L2

abbrev WS := String → PyData → Loc → Z → Sto → Hp → Prop
def Post {α : Type} (W : WS) (l : Loc) (z : Z) (S : Sto) (H : Hp) (r : Res α) (k : α → Z → Sto → Hp → Prop) : Prop := match r with
  | .ok v S' => ∀ z' H', Tr z S H z' S' H' → Rep z' S' H' → k v z' S' H'
  | .err c x S' => ∀ z' H', Tr z S H z' S' H' → Rep z' S' H' → W c x l z' S' H'
  | .stuck => False
section
variable {α β : Type} {W : WS} {l : Loc} {z : Z} {S : Sto} {H : Hp}
theorem Post.mono {r : Res α} {k k' : α → Z → Sto → Hp → Prop} (h : Post W l z S H r k) (m : ∀ v z' S' H', Tr z S H z' S' H' → Rep z' S' H' → k v z' S' H' → k' v z' S' H') : Post W l z S H r k' := by
  cases r with
  | ok v S' => exact fun z' H' t R => m v z' S' H' t R (h z' H' t R)
  | err c x S' => exact h
  | stuck => exact h
theorem Post.bind {r : Res α} {f : α → Sto → Res β} {k : β → Z → Sto → Hp → Prop} (h : Post W l z S H (r.bind f) k) : Post W l z S H r (fun v z1 S1 H1 => Post W l z1 S1 H1 (f v S1) k) := by
  cases r with
  | ok v S1 =>
    intro z1 H1 t R
    have h : Post W l z S H (f v S1) k := h
    cases q : f v S1 with
    | ok w S2 => rw [q] at h; exact fun z2 H2 t2 R2 => h z2 H2 (t.trans R t2) R2
    | err c x S2 => rw [q] at h; exact fun z2 H2 t2 R2 => h z2 H2 (t.trans R t2) R2
    | stuck => rw [q] at h; exact h
  | err c x S1 => exact h
  | stuck => exact h
/-- a partial answer at the very state -/
theorem Post.ofO {o : Option α} {k : α → Z → Sto → Hp → Prop} (R : Rep z S H) (h : Post W l z S H (ofO o S) k) : ∃ v, o = some v ∧ k v z S H := by
  cases o with
  | none => exact h.elim
  | some v => exact ⟨v, rfl, h z H (Tr.refl _ _ _) R⟩
theorem Post.ok {v : α} {k : α → Z → Sto → Hp → Prop} (R : Rep z S H) (h : Post W l z S H (.ok v S) k) : k v z S H := h z H (Tr.refl _ _ _) R
end
/-- the names' values -/
structure RelL (z : Z) (S : Sto) (H : Hp) (l : Loc) (σ : L2.St) : Prop where
  len : l.length = σ.length
  at_ : ∀ i v, getV l i = some v → ∃ u, σ[i]? = some (some u) ∧ RelD z S H v u
theorem RelL.tr {z z' : Z} {S S' : Sto} {H H' : Hp} {l : Loc} {σ : L2.St} (h : RelL z S H l σ) (t : Tr z S H z' S' H') : RelL z' S' H' l σ := ⟨h.len, fun i v e => by
  obtain ⟨u, h1, h2⟩ := h.at_ i v e
  exact ⟨u, h1, h2.tr t⟩⟩
def rdE (C : Calls) (W : WS) (m : ME) : TE := fun σ H Q => ∃ z l S, RelL z S H l σ ∧ Rep z S H ∧ Post W l z S H (evalE C m l S) (fun v z' S' H' => ∀ u, RelD z' S' H' v u → Q u H')
def rdT (C : Calls) (W : WS) (m : ME) : TT := fun σ H Q => ∃ z l S, RelL z S H l σ ∧ Rep z S H ∧ Post W l z S H (evalT C m l S) (fun b _ _ H' => Q b H')
def rdA (C : Calls) (W : WS) (ms : List ME) : TA := fun σ H Q => ∃ z l S, RelL z S H l σ ∧ Rep z S H ∧ Post W l z S H (evalEs C ms l S) (fun vs z' S' H' => ∀ us, RelDs z' S' H' vs us → Q us H')
theorem PE.imp {X : Cx} {e : Expr} {t t' : TE} (h : PE X e t) (m : ∀ σ H Q, t' σ H Q → t σ H Q) : PE X e t' := ⟨fun pins s σ H Q I q => h.run pins s σ H Q I (m σ H Q q)⟩
theorem PT.imp {X : Cx} {e : Expr} {t t' : TT} (h : PT X e t) (m : ∀ σ H Q, t' σ H Q → t σ H Q) : PT X e t' := ⟨fun pins s σ H Q I q => h.run pins s σ H Q I (m σ H Q q)⟩
theorem PW.imp {X : Cx} {e : Expr} {t t' : TT} (h : PW X e t) (m : ∀ σ H Q, t' σ H Q → t σ H Q) : PW X e t' := ⟨fun wh pins s σ H Q I q => h.run wh pins s σ H Q I (m σ H Q q)⟩
theorem PA.imp {X : Cx} {e : List Expr} {t t' : TA} (h : PA X e t) (m : ∀ σ H Q, t' σ H Q → t σ H Q) : PA X e t' := ⟨fun pos pins s σ H Q I q => h.run pos pins s σ H Q I (m σ H Q q)⟩
section
variable {β : Type} {C : Calls} {W : WS} {l : Loc} {z : Z} {S : Sto} {H : Hp} {σ : L2.St} {k : β → Z → Sto → Hp → Prop}
/-- what is known behind a part -/
structure At (W : WS) (l : Loc) (z : Z) (S : Sto) (H : Hp) (σ : L2.St) (H1 : Hp) (z1 : Z) (S1 : Sto) (r : Res β) (k : β → Z → Sto → Hp → Prop) : Prop where
  t : Tr z S H z1 S1 H1
  L : RelL z1 S1 H1 l σ
  R : Rep z1 S1 H1
  h : Post W l z1 S1 H1 r k
theorem seqE {a : ME} {f : DV → Sto → Res β} (hl : RelL z S H l σ) (R : Rep z S H) (h : Post W l z S H ((evalE C a l S).bind f) k) {Q : VK}
    (m : ∀ u H1 z1 S1 v, At W l z S H σ H1 z1 S1 (f v S1) k → RelD z1 S1 H1 v u → Q u H1) : rdE C W a σ H Q :=
  ⟨z, l, S, hl, R, h.bind.mono fun v z1 S1 H1 t R1 h1 u ru => m u H1 z1 S1 v ⟨t, hl.tr t, R1, h1⟩ ru⟩
theorem seqT {a : ME} {f : Bool → Sto → Res β} (hl : RelL z S H l σ) (R : Rep z S H) (h : Post W l z S H ((evalT C a l S).bind f) k) {Q : Bool → Hp → Prop}
    (m : ∀ b H1 z1 S1, At W l z S H σ H1 z1 S1 (f b S1) k → Q b H1) : rdT C W a σ H Q :=
  ⟨z, l, S, hl, R, h.bind.mono fun v z1 S1 H1 t R1 h1 => m v H1 z1 S1 ⟨t, hl.tr t, R1, h1⟩⟩
theorem seqA {a : List ME} {f : List DV → Sto → Res β} (hl : RelL z S H l σ) (R : Rep z S H) (h : Post W l z S H ((evalEs C a l S).bind f) k) {Q : List V → Hp → Prop}
    (m : ∀ us H1 z1 S1 vs, At W l z S H σ H1 z1 S1 (f vs S1) k → RelDs z1 S1 H1 vs us → Q us H1) : rdA C W a σ H Q :=
  ⟨z, l, S, hl, R, h.bind.mono fun v z1 S1 H1 t R1 h1 u ru => m u H1 z1 S1 v ⟨t, hl.tr t, R1, h1⟩ ru⟩
end

/-! ### values -/
theorem asP_ref {S : Sto} {i : Nat} {p : PyData} (h : asP S (.ref i) = some p) : ∃ xs, S[i]? = some (.lst xs) ∧ p = .list xs := by
  have h : (match S[i]? with
    | some (.lst xs) => some (PyData.list xs)
    | _ => none) = some p := h
  cases q : S[i]? with
  | none => rw [q] at h; cases h
  | some o =>
    rw [q] at h
    cases o with
    | lst xs => cases h; exact ⟨xs, rfl, rfl⟩
    | box _ => cases h
    | dT _ => cases h
    | dK _ => cases h
theorem asP_rel {z : Z} {S : Sto} {H : Hp} {v : DV} {p : PyData} {u : V} (R : Rep z S H) (h : asP S v = some p) (r : RelD z S H v u) : RelP H (fun a => z.Rz a) p u ∨ RelP H (Live z S) p u := by
  cases v with
  | d x => cases h; exact .inr r
  | ref i =>
    obtain ⟨hi, e⟩ := r
    obtain ⟨xs, q, rfl⟩ := asP_ref h
    obtain ⟨ys, h1, h2⟩ := R.at_ i _ q
    refine .inl ?_
    unfold RelP
    exact ⟨_, ys, e, R.nrz i hi, .inl h1, RelPs.mono (fun a o h _ => h) (fun a o _ n h => n (.inl h)) _ _ h2⟩
mutual
theorem dp_of {K : PySem.W.Frag} {H : Hp} {L : Addr → Prop} : ∀ (p : PyData) (u : V), RelP H L p u → Dp K H u p
  | .none, u, h => by unfold RelP at h; subst h; exact .non
  | .bool b, u, h => by unfold RelP at h; subst h; exact .bl b
  | .int b, u, h => by unfold RelP at h; subst h; exact .int b
  | .str b, u, h => by unfold RelP at h; subst h; exact .str b
  | .list xs, u, h => by
    unfold RelP at h
    obtain ⟨a, ys, e, _, r, hs⟩ := h
    subst e
    exact .lst (.inl r) (dps_of xs ys hs)
  | .tuple xs, u, h => by
    unfold RelP at h
    obtain ⟨a, ys, e, _, r, hs⟩ := h
    subst e
    exact .tup (.inl (.inl r)) (dps_of xs ys hs)
  | .dict _, u, h => by unfold RelP at h; exact h.elim
theorem dps_of {K : PySem.W.Frag} {H : Hp} {L : Addr → Prop} : ∀ (p : List PyData) (u : List V), RelPs H L p u → DpAll K H u p
  | [], u, h => by unfold RelPs at h; subst h; exact .nil
  | x :: xs, u, h => by
    unfold RelPs at h
    obtain ⟨y, r, e, h1, h2⟩ := h
    subst e
    exact .cons (dp_of x y h1) (dps_of xs r h2)
end
theorem dp_as {K : PySem.W.Frag} {z : Z} {S : Sto} {H : Hp} {v : DV} {p : PyData} {u : V} (R : Rep z S H) (h : asP S v = some p) (r : RelD z S H v u) : Dp K H u p := by
  rcases asP_rel R h r with q | q
  · exact dp_of _ _ q
  · exact dp_of _ _ q
/-- an int, a bool .. -/
theorem rel_int {z : Z} {S : Sto} {H : Hp} {v : DV} {i : Int} {u : V} (R : Rep z S H) (h : asP S v = some (.int i)) (r : RelD z S H v u) : u = .int i := by
  rcases asP_rel R h r with q | q <;> (unfold RelP at q; exact q)
theorem rel_bool {z : Z} {S : Sto} {H : Hp} {v : DV} {i : Bool} {u : V} (R : Rep z S H) (h : asP S v = some (.bool i)) (r : RelD z S H v u) : u = .bl i := by
  rcases asP_rel R h r with q | q <;> (unfold RelP at q; exact q)
theorem rel_none {z : Z} {S : Sto} {H : Hp} {v : DV} {u : V} (R : Rep z S H) (h : asP S v = some .none) (r : RelD z S H v u) : u = .non := by
  rcases asP_rel R h r with q | q <;> (unfold RelP at q; exact q)
/-- a list, a tuple: where it stands, its items -/
theorem rel_list {z : Z} {S : Sto} {H : Hp} {v : DV} {xs : List PyData} {u : V} (R : Rep z S H) (h : asP S v = some (.list xs)) (r : RelD z S H v u) : ∃ a ys, u = .ref a ∧ Rd H a (.lst ys) ∧ RelPs H (Live z S) xs ys := by
  cases v with
  | d x => cases h; unfold RelD at r; unfold RelP at r; obtain ⟨a, ys, e, _, r1, r2⟩ := r; exact ⟨a, ys, e, r1, r2⟩
  | ref i =>
    obtain ⟨hi, e⟩ := r
    obtain ⟨zs, q, e2⟩ := asP_ref h
    cases e2
    obtain ⟨ys, h1, h2⟩ := R.at_ i _ q
    exact ⟨_, ys, e, .inl h1, h2⟩
theorem rel_tup {z : Z} {S : Sto} {H : Hp} {v : DV} {xs : List PyData} {u : V} (h : asP S v = some (.tuple xs)) (r : RelD z S H v u) : ∃ a ys, u = .ref a ∧ Rd H a (.tup ys) ∧ RelPs H (Live z S) xs ys ∧ RelP H (Live z S) (.tuple xs) u := by
  cases v with
  | d x => cases h; unfold RelD at r; have r' := r; unfold RelP at r; obtain ⟨a, ys, e, _, r1, r2⟩ := r; exact ⟨a, ys, e, .inl r1, r2, r'⟩
  | ref i =>
    obtain ⟨zs, q, e2⟩ := asP_ref h
    cases e2
/-- a new thing that is not live, its items plain -/
theorem rel_newT {z : Z} {S : Sto} {H : Hp} {p : Addr} {xs : List PyData} {ys : List V} (R : Rep z S H) (hp : H p = none) (r : RelPs H (Live z S) xs ys) :
    Tr z S H z S (upd H p (.tup ys)) ∧ Rep z S (upd H p (.tup ys)) ∧ RelD z S (upd H p (.tup ys)) (.d (.tuple xs)) (.ref p) := by
  obtain ⟨t, R'⟩ := R.laid (o := .tup ys) hp
  refine ⟨t, R', ?_⟩
  show RelP _ _ (.tuple xs) _
  unfold RelP
  exact ⟨p, ys, rfl, R.notLive hp, upd_same, r.tr t⟩
theorem rel_newL {z : Z} {S : Sto} {H : Hp} {p : Addr} {xs : List PyData} {ys : List V} (R : Rep z S H) (hp : H p = none) (r : RelPs H (Live z S) xs ys) :
    Tr z S H z S (upd H p (.lst ys)) ∧ Rep z S (upd H p (.lst ys)) ∧ RelD z S (upd H p (.lst ys)) (.d (.list xs)) (.ref p) := by
  obtain ⟨t, R'⟩ := R.laid (o := .lst ys) hp
  refine ⟨t, R', ?_⟩
  show RelP _ _ (.list xs) _
  unfold RelP
  exact ⟨p, ys, rfl, R.notLive hp, .inl upd_same, r.tr t⟩
/-- .. as a mutable thing -/
def Z.put (z : Z) (n : Nat) (p : Addr) : Z := ⟨z.Rz, fun i => if i = n then p else z.ρ i⟩
theorem put_old {z : Z} {n i : Nat} {p : Addr} (h : i < n) : (z.put n p).ρ i = z.ρ i := if_neg (by omega)
theorem put_new {z : Z} {n : Nat} {p : Addr} : (z.put n p).ρ n = p := if_pos rfl
theorem rep_put {z : Z} {S : Sto} {H : Hp} {p : Addr} {o : OB} {ho : HO} (R : Rep z S H) (hp : H p = none) (hr : Tr z S H (z.put S.length p) (S ++ [o]) (upd H p ho) → RelO (z.put S.length p) (S ++ [o]) (upd H p ho) p o) :
    Tr z S H (z.put S.length p) (S ++ [o]) (upd H p ho) ∧ Rep (z.put S.length p) (S ++ [o]) (upd H p ho) := by
  have t : Tr z S H (z.put S.length p) (S ++ [o]) (upd H p ho) := by
    refine ⟨Grow.refl _ _, by simp, fun i h => put_old h, fun a u h _ => by rw [upd_ne (ne_of_none h hp)]; exact h, fun i h1 h2 => ?_⟩
    have : i = S.length := by simp at h2; omega
    subst this; rw [put_new]; exact hp
  refine ⟨t, fun i j hi hj e => ?_, fun i hi h => ?_, fun a ha => ?_, fun i o' h => ?_⟩
  · simp at hi hj
    by_cases h1 : i = S.length
    · by_cases h2 : j = S.length
      · omega
      · subst h1; rw [put_new, put_old (by omega)] at e
        exact absurd hp (by rw [e]; exact R.tracked (by omega))
    · by_cases h2 : j = S.length
      · subst h2; rw [put_new, put_old (by omega)] at e
        exact absurd hp (by rw [← e]; exact R.tracked (by omega))
      · rw [put_old (by omega), put_old (by omega)] at e
        exact R.inj i j (by omega) (by omega) e
  · simp at hi
    by_cases h1 : i = S.length
    · subst h1; rw [put_new] at h; exact R.trk p h hp
    · rw [put_old (by omega)] at h; exact R.nrz i (by omega) h
  · by_cases e : a = p
    · subst e; rw [upd_same]; exact fun z => nomatch z
    · rw [upd_ne e]; exact R.trk a ha
  · by_cases h1 : i < S.length
    · rw [List.getElem?_append_left h1] at h
      have ne : z.ρ i ≠ p := fun e => R.tracked h1 (by rw [e]; exact hp)
      rw [put_old h1]
      have q := R.at_ i o' h
      cases o' with
      | lst xs => obtain ⟨ys, q1, q2⟩ := q; exact ⟨ys, by rw [upd_ne ne]; exact q1, q2.tr t⟩
      | box xs => obtain ⟨ys, q1, q2⟩ := q; exact ⟨ys, by rw [upd_ne ne]; exact q1, q2.tr t⟩
      | dT xs => obtain ⟨ys, q1, q2⟩ := q; exact ⟨ys, by rw [upd_ne ne]; exact q1, q2.tr t⟩
      | dK xs => obtain ⟨ys, q1, q2⟩ := q; exact ⟨ys, by rw [upd_ne ne]; exact q1, q2.tr t⟩
    · have h2 : i < (S ++ [o]).length := (List.getElem?_eq_some_iff.mp h).1
      have h3 : i = S.length := by simp at h2; omega
      subst h3
      rw [put_new]
      have : o' = o := by simp at h; exact h.symm
      subst this
      exact hr t
/-- a new list, plain or mutable -/
theorem new_list {W : WS} {l : Loc} {z : Z} {S : Sto} {H : Hp} {p : Addr} {m : Bool} {xs : List PyData} {ys : List V} {k : DV → Z → Sto → Hp → Prop} (R : Rep z S H) (hp : H p = none) (r : RelPs H (Live z S) xs ys) (h : Post W l z S H (mkL m xs S) k) :
    ∃ v z' S', k v z' S' (upd H p (.lst ys)) ∧ RelD z' S' (upd H p (.lst ys)) v (.ref p) := by
  cases m with
  | false =>
    obtain ⟨t, R', d⟩ := rel_newL R hp r
    exact ⟨_, z, S, h z _ t R', d⟩
  | true =>
    obtain ⟨t, R'⟩ := rep_put (o := .lst xs) (ho := .lst ys) R hp fun t => ⟨ys, upd_same, r.tr t⟩
    exact ⟨_, _, _, h _ _ t R', by simp, by rw [put_new]⟩
end Ev
end
section
set_option maxRecDepth 100000
set_option maxHeartbeats 4000000
/-! EvR2: the rules of expressions and tests. -/
namespace Ev
open PySem PySem.Spec PyProof.Rows L2
section
variable {X : Cx} {W : WS} {C : Calls} {a b c e : Expr} {es : List Expr} {ma mb mc : ME} {ms : List ME} {pos : Pos}
/-! ### names, constants -/
theorem e_var (i : Nat) {x : Str} (hN : X.N[i]? = some x := by rfl) (hv : Vis X.env.scope x := by first | exact Or.inl rfl | exact Or.inr (Or.inl rfl) | exact Or.inr (Or.inr rfl)) (hd : (x == ("__debug__" : Str)) = false := by decide)
    (hcd : (x == ("__classdict__" : Str)) = false := by decide) : PE X (.Name x pos) (rdE C W (.var i)) := by
  refine PE.imp (pe_var hN hv hd hcd) fun σ H Q ⟨z, l, S, hl, R, h⟩ => ?_
  unfold evalE at h
  obtain ⟨v, h1, h2⟩ := Post.ofO R h
  obtain ⟨u, e, r⟩ := hl.at_ i v h1
  exact ⟨u, e, h2 u r⟩
theorem lit_ok {x : PyData} {v : V} (hr : ∀ H L, RelP H L x v) (h : PE X e (tC v)) : PE X e (rdE C W (.lit x)) :=
  PE.imp h fun σ H Q ⟨z, l, S, hl, R, h⟩ => by
    unfold evalE at h
    exact Post.ok R h v (hr _ _)
theorem rel_i {i : Int} : ∀ H L, RelP H L (.int i) (.int i) := fun H L => by unfold RelP; rfl
theorem rel_b {i : Bool} : ∀ H L, RelP H L (.bool i) (.bl i) := fun H L => by unfold RelP; rfl
theorem rel_s {i : Str} : ∀ H L, RelP H L (.str i) (.str i) := fun H L => by unfold RelP; rfl
theorem rel_n : ∀ H L, RelP H L .none .non := fun H L => by unfold RelP; rfl
theorem rD_i {z : Z} {S : Sto} {H : Hp} {i : Int} : RelD z S H (.d (.int i)) (.int i) := by show RelP _ _ _ _; unfold RelP; rfl
theorem rD_b {z : Z} {S : Sto} {H : Hp} {i : Bool} : RelD z S H (.d (.bool i)) (.bl i) := by show RelP _ _ _ _; unfold RelP; rfl
theorem rD_s {z : Z} {S : Sto} {H : Hp} {i : Str} : RelD z S H (.d (.str i)) (.str i) := by show RelP _ _ _ _; unfold RelP; rfl
theorem rD_n {z : Z} {S : Sto} {H : Hp} : RelD z S H (.d .none) .non := by show RelP _ _ _ _; unfold RelP; rfl
theorem e_int {i : Int} {j} : PE X (.Constant (.int i) j pos) (rdE C W (.lit (.int i))) := lit_ok rel_i pe_int
theorem e_bool {i : Bool} {j} : PE X (.Constant (.bool i) j pos) (rdE C W (.lit (.bool i))) := lit_ok rel_b pe_bl
theorem e_str {i : Str} {j} : PE X (.Constant (.str i) j pos) (rdE C W (.lit (.str i))) := lit_ok rel_s pe_str
theorem e_none {j} : PE X (.Constant .none j pos) (rdE C W (.lit .none)) := lit_ok rel_n pe_non
theorem e_globI {x : Str} {i : Int} {t : Tok} (hm : X.mg x = some (.int i t)) (hg : Gl X x := by rfl) (hd : (x == ("__debug__" : Str)) = false := by decide) : PE X (.Name x pos) (rdE C W (.lit (.int i))) := lit_ok rel_i (pe_glob hg hm ⟨t, rfl⟩ hd)

/-! ### two operands -/
theorem OpR.or {f : Value → Value → Sem Value} {r r' : R2} (h : OpR X f r) (h' : OpR X f r') : OpR X f (fun x y H Q => r x y H Q ∨ r' x y H Q) := fun pins s σ H x y v u Q I rx ry q => q.elim (h pins s σ H x y v u Q I rx ry) (h' pins s σ H x y v u Q I rx ry)
/-- what an operator's rule must give -/
def OpOk (r : R2) (f : PyData → PyData → Option PyData) : Prop := ∀ (W : WS) (l : Loc) (z : Z) (S : Sto) (H : Hp) (x y : DV) (u v : V) (p q w : PyData) (Q : VK), Rep z S H → RelD z S H x u → RelD z S H y v → asP S x = some p → asP S y = some q → f p q = some w →
  (∀ H' u', Tr z S H z S H' → Rep z S H' → RelD z S H' (.d w) u' → Q u' H') → r u v H Q
theorem bin_ok {r : R2} {f : PyData → PyData → Option PyData} {σ : L2.St} {H : Hp} {Q : VK} (ho : OpOk r f) {z : Z} {l : Loc} {S : Sto} (hl : RelL z S H l σ) (R : Rep z S H)
    (h : Post W l z S H ((evalE C ma l S).bind fun x S1 => (evalE C mb l S1).bind fun y S2 => ofO ((asP S2 x).bind fun p => (asP S2 y).bind fun q => (f p q).map .d) S2) (fun v z' S' H' => ∀ u, RelD z' S' H' v u → Q u H')) : tOp r (rdE C W ma) (rdE C W mb) σ H Q := by
  refine seqE hl R h fun u H1 z1 S1 x a1 rx => ?_
  refine seqE a1.L a1.R a1.h fun v H2 z2 S2 y a2 ry => ?_
  have rx2 := rx.tr a2.t
  have h2 := a2.h
  cases ex : asP S2 x with
  | none => rw [ex] at h2; exact h2.elim
  | some p =>
    cases ey : asP S2 y with
    | none => rw [ex, ey] at h2; exact h2.elim
    | some q =>
      cases ef : f p q with
      | none => rw [ex, ey] at h2; simp only [Option.bind_some, ef] at h2; exact h2.elim
      | some w =>
        rw [ex, ey] at h2; simp only [Option.bind_some, ef, Option.map_some] at h2
        exact ho W l z2 S2 H2 x y u v p q w Q a2.R rx2 ry ex ey ef fun H' u' t R' r' => h2 _ _ t R' u' r'
/-- ints -/
theorem ok_I0 {g : Int → Int → Int} {f : PyData → PyData → Option PyData} (hf : ∀ p q w, f p q = some w → ∃ i j, p = .int i ∧ q = .int j ∧ w = .int (g i j)) : OpOk (rI0 fun i j => .int (g i j)) f := by
  intro W l z S H x y u v p q w Q R rx ry ex ey ef k
  obtain ⟨i, j, rfl, rfl, rfl⟩ := hf p q w ef
  exact ⟨i, j, rel_int R ex rx, rel_int R ey ry, k H _ (Tr.refl _ _ _) R rD_i⟩
theorem ok_I {Cd : Int → Int → Prop} {g : Int → Int → Int} {f : PyData → PyData → Option PyData} (hf : ∀ p q w, f p q = some w → ∃ i j, p = .int i ∧ q = .int j ∧ Cd i j ∧ w = .int (g i j)) : OpOk (rI Cd fun i j => .int (g i j)) f := by
  intro W l z S H x y u v p q w Q R rx ry ex ey ef k
  obtain ⟨i, j, rfl, rfl, hc, rfl⟩ := hf p q w ef
  exact ⟨i, j, rel_int R ex rx, rel_int R ey ry, hc, k H _ (Tr.refl _ _ _) R rD_i⟩
theorem ok_B0 {g : Int → Int → Bool} {f : PyData → PyData → Option PyData} (hf : ∀ p q w, f p q = some w → ∃ i j, p = .int i ∧ q = .int j ∧ w = .bool (g i j)) : OpOk (rI0 fun i j => .bl (g i j)) f := by
  intro W l z S H x y u v p q w Q R rx ry ex ey ef k
  obtain ⟨i, j, rfl, rfl, rfl⟩ := hf p q w ef
  exact ⟨i, j, rel_int R ex rx, rel_int R ey ry, k H _ (Tr.refl _ _ _) R rD_b⟩
theorem lim_line {n : Nat} (h : n ≤ LIM) : n ≤ sizeLine := Nat.le_trans h (by decide)
theorem lim_lt {n : Nat} (h : n < LIM) : n < sizeLine := Nat.lt_of_lt_of_le h (by decide)
/-- lists, tracked or locked -/
def rCatL : R2 := fun x y H Q => ∃ l b xs zs, x = .ref l ∧ y = .ref b ∧ Rd H l (.lst xs) ∧ Rd H b (.lst zs) ∧ xs.length + zs.length ≤ sizeLine ∧ ∀ p, H p = none → Q (.ref p) (upd H p (.lst (xs ++ zs)))
theorem op_catL : OpR X (binaryOp .Add) rCatL := by
  intro pins s σ H x y v u Q I rx ry h
  obtain ⟨l, b, xs, zs, rfl, rfl, hH, hB, hz, q⟩ := h
  cases rx
  cases ry
  obtain ⟨hl, its, n, r, e⟩ := hH.ok I.hok
  obtain ⟨hl2, its2, n2, r2, e2⟩ := hB.ok I.hok
  have z1 := r.length
  have z2 := r2.length
  have hsz : its.toArray.size + its2.toArray.size ≤ sizeLine := by rw [List.size_toArray, List.size_toArray]; omega
  refine PySem.P.add_list e e2 ?_ hsz
  have ea : its.toArray ++ its2.toArray = (its ++ its2).toArray := by simp
  rw [ea]
  exact ⟨.ref _, _, I.lnew (t' := s.toks) (r.append r2) (by rw [List.length_append]; omega), rfl, q _ I.fresh⟩
theorem ok_catL {f : PyData → PyData → Option PyData} (hf : ∀ p q w, f p q = some w → ∃ xs ys, p = .list xs ∧ q = .list ys ∧ xs.length + ys.length ≤ LIM ∧ w = .list (xs ++ ys)) : OpOk rCatL f := by
  intro W l z S H x y u v p q w Q R rx ry ex ey ef k
  obtain ⟨xs, ys, rfl, rfl, hz, rfl⟩ := hf p q w ef
  obtain ⟨a1, us, rfl, d1, r1⟩ := rel_list R ex rx
  obtain ⟨a2, vs, rfl, d2, r2⟩ := rel_list R ey ry
  refine ⟨a1, a2, us, vs, rfl, rfl, d1, d2, by rw [← r1.length, ← r2.length]; exact lim_line hz, fun p hp => ?_⟩
  obtain ⟨t, R', d⟩ := rel_newL R hp (r1.append r2)
  exact k _ _ t R' d
theorem ok_catT {K : PySem.W.Frag} {f : PyData → PyData → Option PyData} (hf : ∀ p q w, f p q = some w → ∃ xs ys, p = .tuple xs ∧ q = .tuple ys ∧ xs.length + ys.length ≤ LIM ∧ w = .tuple (xs ++ ys)) : OpOk (rCatA K) f := by
  intro W l z S H x y u v p q w Q R rx ry ex ey ef k
  obtain ⟨xs, ys, rfl, rfl, hz, rfl⟩ := hf p q w ef
  obtain ⟨a1, us, rfl, d1, r1, rx'⟩ := rel_tup ex rx
  obtain ⟨a2, vs, rfl, d2, r2, ry'⟩ := rel_tup ey ry
  refine ⟨a1, a2, us, vs, rfl, rfl, .inl d1, .inl d2, by rw [← r1.length, ← r2.length]; exact lim_line hz, fun e => ?_, fun _ e => ?_, fun _ _ p hp => ?_⟩
  · have : xs = [] := List.eq_nil_of_length_eq_zero (by rw [r1.length, e]; rfl)
    subst this
    exact k H _ (Tr.refl _ _ _) R ry'
  · have : ys = [] := List.eq_nil_of_length_eq_zero (by rw [r2.length, e]; rfl)
    subst this
    rw [List.append_nil] at k
    exact k H _ (Tr.refl _ _ _) R rx'
  · obtain ⟨t, R', d⟩ := rel_newT R hp (r1.append r2)
    exact k _ _ t R' d
theorem OpOk.or {r r' : R2} {f f' g : PyData → PyData → Option PyData} (h : OpOk r f) (h' : OpOk r' f') (hg : ∀ p q w, g p q = some w → f p q = some w ∨ f' p q = some w) : OpOk (fun x y H Q => r x y H Q ∨ r' x y H Q) g := by
  intro W l z S H x y u v p q w Q R rx ry ex ey ef k
  rcases hg p q w ef with e | e
  · exact .inl (h W l z S H x y u v p q w Q R rx ry ex ey e k)
  · exact .inr (h' W l z S H x y u v p q w Q R rx ry ex ey e k)
theorem e_bin {o : Bin} {op : Operator} {r : R2} (ho : OpR X (binaryOp op) r) (hk : OpOk r (binP o)) (ha : PE X a (rdE C W ma)) (hb : PE X b (rdE C W mb)) : PE X (.BinOp a op b pos) (rdE C W (.bin o ma mb)) :=
  PE.imp (pe_op ho ha hb) fun σ H Q ⟨z, l, S, hl, R, h⟩ => by
    unfold evalE at h
    exact bin_ok hk hl R h
def addI : PyData → PyData → Option PyData
  | .int i, .int j => some (.int (i + j))
  | _, _ => none
def addL : PyData → PyData → Option PyData
  | .list xs, .list ys => if xs.length + ys.length ≤ LIM then some (.list (xs ++ ys)) else none
  | _, _ => none
def addT : PyData → PyData → Option PyData
  | .tuple xs, .tuple ys => if xs.length + ys.length ≤ LIM then some (.tuple (xs ++ ys)) else none
  | _, _ => none
def addLT (p q : PyData) : Option PyData := match addL p q with
  | some w => some w
  | none => addT p q
theorem if_lim {c : Prop} [Decidable c] {x w : PyData} (h : (if c then some x else none) = some w) : c ∧ w = x := by
  by_cases q : c
  · rw [if_pos q] at h; exact ⟨q, (Option.some.inj h).symm⟩
  · rw [if_neg q] at h; cases h
theorem addI_ok {p q w : PyData} (h : addI p q = some w) : ∃ i j, p = .int i ∧ q = .int j ∧ w = .int (i + j) := by
  unfold addI at h
  split at h
  · exact ⟨_, _, rfl, rfl, (Option.some.inj h).symm⟩
  · cases h
theorem addL_ok {p q w : PyData} (h : addL p q = some w) : ∃ xs ys, p = .list xs ∧ q = .list ys ∧ xs.length + ys.length ≤ LIM ∧ w = .list (xs ++ ys) := by
  unfold addL at h
  split at h
  · obtain ⟨c, e⟩ := if_lim h; exact ⟨_, _, rfl, rfl, c, e⟩
  · cases h
theorem addT_ok {p q w : PyData} (h : addT p q = some w) : ∃ xs ys, p = .tuple xs ∧ q = .tuple ys ∧ xs.length + ys.length ≤ LIM ∧ w = .tuple (xs ++ ys) := by
  unfold addT at h
  split at h
  · obtain ⟨c, e⟩ := if_lim h; exact ⟨_, _, rfl, rfl, c, e⟩
  · cases h
theorem add_by {p q w : PyData} (h : binP .add p q = some w) : addI p q = some w ∨ (addL p q = some w ∨ addT p q = some w) := by
  cases p <;> cases q <;> first
    | exact .inl h
    | exact .inr (.inl h)
    | exact .inr (.inr h)
theorem bAdd {K : PySem.W.Frag} : OpOk (fun x y H Q => rI0 (fun i j => V.int (i + j)) x y H Q ∨ (rCatL x y H Q ∨ rCatA K x y H Q)) (binP .add) := by
  intro W l z S H x y u v p q w Q R rx ry ex ey ef k
  rcases add_by ef with h | h | h
  · exact .inl (ok_I0 (g := fun i j => i + j) (fun _ _ _ => addI_ok) W l z S H x y u v p q w Q R rx ry ex ey h k)
  · exact .inr (.inl (ok_catL (fun _ _ _ => addL_ok) W l z S H x y u v p q w Q R rx ry ex ey h k))
  · exact .inr (.inr (ok_catT (fun _ _ _ => addT_ok) W l z S H x y u v p q w Q R rx ry ex ey h k))
theorem e_add (ha : PE X a (rdE C W ma)) (hb : PE X b (rdE C W mb)) : PE X (.BinOp a .Add b pos) (rdE C W (.bin .add ma mb)) := e_bin (op_add.or (op_catL.or op_catA)) bAdd ha hb
theorem e_sub (ha : PE X a (rdE C W ma)) (hb : PE X b (rdE C W mb)) : PE X (.BinOp a .Sub b pos) (rdE C W (.bin .sub ma mb)) :=
  e_bin op_sub (ok_I0 (g := fun i j => i - j) fun p q w h => by cases p <;> cases q <;> simp [binP] at h; exact ⟨_, _, rfl, rfl, h.symm⟩) ha hb
theorem e_mul (ha : PE X a (rdE C W ma)) (hb : PE X b (rdE C W mb)) : PE X (.BinOp a .Mult b pos) (rdE C W (.bin .mul ma mb)) :=
  e_bin op_mul (ok_I (g := fun i j => i * j) fun p q w h => by cases p <;> cases q <;> simp [binP] at h; exact ⟨_, _, rfl, rfl, h.1, h.2.symm⟩) ha hb
theorem e_fdiv (ha : PE X a (rdE C W ma)) (hb : PE X b (rdE C W mb)) : PE X (.BinOp a .FloorDiv b pos) (rdE C W (.bin .fdiv ma mb)) :=
  e_bin op_fdivN (ok_I (g := fun i j => i.fdiv j) fun p q w h => by cases p <;> cases q <;> simp [binP] at h; exact ⟨_, _, rfl, rfl, h.1, h.2.symm⟩) ha hb
theorem e_mod (ha : PE X a (rdE C W ma)) (hb : PE X b (rdE C W mb)) : PE X (.BinOp a .Mod b pos) (rdE C W (.bin .mod ma mb)) :=
  e_bin op_modN (ok_I (g := fun i j => i.fmod j) fun p q w h => by cases p <;> cases q <;> simp [binP] at h; exact ⟨_, _, rfl, rfl, h.1, h.2.symm⟩) ha hb
theorem e_pow (ha : PE X a (rdE C W ma)) (hb : PE X b (rdE C W mb)) : PE X (.BinOp a .Pow b pos) (rdE C W (.bin .pow ma mb)) :=
  e_bin op_pow (ok_I (g := fun i j => i ^ j.toNat) fun p q w h => by cases p <;> cases q <;> simp [binP] at h; exact ⟨_, _, rfl, rfl, h.1, h.2.symm⟩) ha hb

/-! ### comparisons -/
def cmpD (o : Cmp) (p q : PyData) : Option PyData := (cmpP o p q).map .bool
theorem e_cmp {o : Cmp} {op : CmpOp} {r : R2} (ho : OpR X (compareOp op) r) (hk : OpOk r (cmpD o)) (hm : behindInMarks op b = false) (ha : PE X a (rdE C W ma)) (hb : PE X b (rdE C W mb)) : PE X (.Compare a [op] [b] pos) (rdE C W (.cmp o ma mb)) :=
  PE.imp (pe_cmpR ho ha hb hm) fun σ H Q ⟨z, l, S, hl, R, h⟩ => by
    unfold evalE at h
    refine bin_ok (f := cmpD o) hk hl R ?_
    simpa only [cmpD, Option.map_map, Function.comp_def] using h
theorem kEq : OpOk (rEqD X.K) (cmpD .eq) := by
  intro W l z S H x y u v p q w Q R rx ry ex ey ef k
  have h : SeqAt.shaped p = true ∧ SeqAt.shaped q = true ∧ w = .bool (PyData.eqv p q) := by
    unfold cmpD cmpP at ef
    by_cases c : SeqAt.shaped p = true ∧ SeqAt.shaped q = true
    · simp [c] at ef; exact ⟨c.1, c.2, ef.symm⟩
    · simp [c] at ef
  obtain ⟨h1, h2, rfl⟩ := h
  exact ⟨p, q, dp_as R ex rx, dp_as R ey ry, h1, h2, k H _ (Tr.refl _ _ _) R rD_b⟩
theorem kNe : OpOk (rNeD X.K) (cmpD .ne) := by
  intro W l z S H x y u v p q w Q R rx ry ex ey ef k
  have h : SeqAt.shaped p = true ∧ SeqAt.shaped q = true ∧ w = .bool (!PyData.eqv p q) := by
    unfold cmpD cmpP at ef
    by_cases c : SeqAt.shaped p = true ∧ SeqAt.shaped q = true
    · simp [c] at ef; exact ⟨c.1, c.2, ef.symm⟩
    · simp [c] at ef
  obtain ⟨h1, h2, rfl⟩ := h
  exact ⟨p, q, dp_as R ex rx, dp_as R ey ry, h1, h2, k H _ (Tr.refl _ _ _) R rD_b⟩
theorem kLt : OpOk (rI0 fun i j => V.bl (decide (i < j))) (cmpD .lt) := ok_B0 fun p q w h => by cases p <;> cases q <;> simp [cmpD, cmpP] at h; exact ⟨_, _, rfl, rfl, h.symm⟩
theorem kGt : OpOk (rI0 fun i j => V.bl (decide (j < i))) (cmpD .gt) := ok_B0 fun p q w h => by cases p <;> cases q <;> simp [cmpD, cmpP] at h; exact ⟨_, _, rfl, rfl, h.symm⟩
theorem kGe : OpOk (rI0 fun i j => V.bl (decide (j ≤ i))) (cmpD .ge) := ok_B0 fun p q w h => by cases p <;> cases q <;> simp [cmpD, cmpP] at h; exact ⟨_, _, rfl, rfl, h.symm⟩
theorem lexAt_shift (e r : Nat → Bool) (z : Bool) : ∀ (k i : Nat), Ob.lexAt e r z (i + 1) k = Ob.lexAt (fun j => e (j + 1)) (fun j => r (j + 1)) z i k
  | 0, _ => rfl
  | k + 1, i => by rw [Ob.lexAt_succ, Ob.lexAt_succ, lexAt_shift e r z k (i + 1)]
theorem lexLe_at : ∀ ns ms : List Int, Ob.lexAt (fun j => decide (ns.getD j 0 = ms.getD j 0)) (fun j => decide (ns.getD j 0 ≤ ms.getD j 0)) (decide (ns.length ≤ ms.length)) 0 (min ns.length ms.length) = lexLe ns ms
  | [], ms => by simp [Ob.lexAt_zero, lexLe]
  | n :: ns, [] => by simp [Ob.lexAt_zero, lexLe]
  | n :: ns, m :: ms => by
    have e : min (n :: ns).length (m :: ms).length = min ns.length ms.length + 1 := by simp [Nat.succ_min_succ]
    rw [e, Ob.lexAt_succ, lexAt_shift]
    have ih := lexLe_at ns ms
    simp only [List.getD_cons_zero, List.getD_cons_succ, List.length_cons, Nat.add_le_add_iff_right] at ih ⊢
    unfold lexLe
    by_cases c : n = m
    · simp only [c, decide_true, if_true, ih]
    · simp only [c, decide_false, if_false, Bool.false_eq_true]
      by_cases c2 : n < m
      · simp [c2, Int.le_of_lt c2]
      · have : ¬ n ≤ m := by omega
        simp [c2, this]
theorem ints_rel {H : Hp} {L : Addr → Prop} : ∀ {xs : List PyData} {ns : List Int} {ys : List V}, intsOf xs = some ns → RelPs H L xs ys → ys = ns.map V.int
  | [], ns, ys, h, r => by cases h; unfold RelPs at r; exact r
  | x :: xs, ns, ys, h, r => by
    cases x <;> simp [intsOf] at h
    obtain ⟨ms, h1, rfl⟩ := h
    unfold RelPs at r
    obtain ⟨y, t, rfl, r1, r2⟩ := r
    unfold RelP at r1
    subst r1
    rw [ints_rel h1 r2]; rfl
theorem kLe : OpOk (fun x y H Q => rI0 (fun i j => V.bl (decide (i ≤ j))) x y H Q ∨ rLeT X.K x y H Q) (cmpD .le) := by
  intro W l z S H x y u v p q w Q R rx ry ex ey ef k
  cases p <;> cases q <;> simp [cmpD, cmpP] at ef
  · subst ef
    exact .inl ⟨_, _, rel_int R ex rx, rel_int R ey ry, k H _ (Tr.refl _ _ _) R rD_b⟩
  · rename_i xs ys
    cases e1 : intsOf xs with
    | none => simp [e1] at ef
    | some ns =>
      cases e2 : intsOf ys with
      | none => simp [e1, e2] at ef
      | some ms =>
        simp [e1, e2] at ef
        have ew : w = .bool (lexLe ns ms) := by rcases ef with ⟨h1, h2⟩ | ⟨h1, h2⟩ <;> rw [h1, h2]
        subst ew
        obtain ⟨a1, us, rfl, d1, r1, _⟩ := rel_tup ex rx
        obtain ⟨a2, vs, rfl, d2, r2, _⟩ := rel_tup ey ry
        have f1 := ints_rel e1 r1
        have f2 := ints_rel e2 r2
        subst f1 f2
        refine .inr ⟨a1, a2, ns, ms, rfl, rfl, .inl d1, .inl d2, ?_⟩
        rw [lexLe_at]
        exact k H _ (Tr.refl _ _ _) R rD_b
theorem kIn : OpOk (rInD X.K) (cmpD .isIn) := by
  intro W l z S H x y u v p q w Q R rx ry ex ey ef k
  cases q <;> simp [cmpD, cmpP] at ef
  rename_i ys
  obtain ⟨⟨h1, h2⟩, rfl⟩ := ef
  exact ⟨p, ys, dp_as R ex rx, dp_as R ey ry, h1, h2, k H _ (Tr.refl _ _ _) R rD_b⟩
theorem kNotIn : OpOk (rNotInD X.K) (cmpD .notIn) := by
  intro W l z S H x y u v p q w Q R rx ry ex ey ef k
  cases q <;> simp only [cmpD, cmpP] at ef <;> try (simp at ef; done)
  rename_i ys
  by_cases c : SeqAt.shaped p = true ∧ SeqAt.shaped (.list ys) = true
  · rw [if_pos c] at ef
    simp only [Option.map_some, Option.some.injEq] at ef
    subst ef
    exact ⟨p, ys, dp_as R ex rx, dp_as R ey ry, c.1, c.2, k H _ (Tr.refl _ _ _) R rD_b⟩
  · rw [if_neg c] at ef; simp at ef
theorem non_iff {z : Z} {S : Sto} {H : Hp} {x : DV} {u : V} {p : PyData} (R : Rep z S H) (ex : asP S x = some p) (rx : RelD z S H x u) : decide (u = .non) = (match p with | .none => true | _ => false) := by
  rcases asP_rel R ex rx with q | q <;> cases p <;> unfold RelP at q <;> first
    | (subst q; rfl)
    | (obtain ⟨a, ys, rfl, _⟩ := q; rfl)
    | exact q.elim
theorem kIsN : OpOk (fun x y H Q => y = V.non ∧ Q (.bl (decide (x = .non))) H) (cmpD .isN) := by
  intro W l z S H x y u v p q w Q R rx ry ex ey ef k
  cases q <;> simp [cmpD, cmpP] at ef
  subst ef
  refine ⟨rel_none R ey ry, ?_⟩
  rw [non_iff R ex rx]
  refine k H _ (Tr.refl _ _ _) R ?_
  cases p <;> exact rD_b
theorem kNotN : OpOk (fun x y H Q => y = V.non ∧ Q (.bl (!decide (x = .non))) H) (cmpD .notN) := by
  intro W l z S H x y u v p q w Q R rx ry ex ey ef k
  cases q <;> simp [cmpD, cmpP] at ef
  subst ef
  refine ⟨rel_none R ey ry, ?_⟩
  rw [non_iff R ex rx]
  refine k H _ (Tr.refl _ _ _) R ?_
  cases p <;> exact rD_b
end
end Ev
end
section
set_option maxRecDepth 100000
set_option maxHeartbeats 4000000
/-! EvR3: more rules of expressions, the rules of tests. -/
namespace Ev
open PySem PySem.Spec PyProof.Rows L2
section
variable {X : Cx} {W : WS} {C : Calls} {a b c d e : Expr} {es rest : List Expr} {ma mb mc md : ME} {ms : List ME} {pos : Pos}
theorem e_neg (ha : PE X a (rdE C W ma)) : PE X (.UnaryOp .USub a pos) (rdE C W (.neg ma)) :=
  PE.imp (pe_un un_neg ha) fun σ H Q ⟨z, l, S, hl, R, h⟩ => by
    unfold evalE at h
    refine seqE hl R h fun u H1 z1 S1 v a1 rv => ?_
    have h1 := a1.h
    cases v with
    | ref i => exact h1.elim
    | d x =>
      cases x <;> first
        | exact h1.elim
        | (rename_i i; have e : u = .int i := rel_int a1.R rfl rv; subst e; exact ⟨i, rfl, Post.ok a1.R h1 _ rD_i⟩)
theorem e_not (ha : PE X a (rdE C W ma)) : PE X (.UnaryOp .Not a pos) (rdE C W (.not ma)) :=
  PE.imp (pe_not ha) fun σ H Q ⟨z, l, S, hl, R, h⟩ => by
    unfold evalE at h
    refine seqE hl R h fun u H1 z1 S1 v a1 rv => ?_
    have h1 := a1.h
    cases v with
    | ref i => exact h1.elim
    | d x =>
      cases x <;> first
        | exact h1.elim
        | (rename_i i; have e : u = .bl i := rel_bool a1.R rfl rv; subst e; exact ⟨i, rfl, Post.ok a1.R h1 _ rD_b⟩)
theorem e_one {op : BoolOp} (ha : PE X a (rdE C W ma)) : PE X (.BoolOp op [a] pos) (rdE C W ma) := pe_one ha
theorem e_and (ha : PE X a (rdE C W ma)) (hb : PE X (.BoolOp .And (b :: rest) pos) (rdE C W mb)) : PE X (.BoolOp .And (a :: b :: rest) pos) (rdE C W (.and ma mb)) :=
  PE.imp (pe_and ha hb) fun σ H Q ⟨z, l, S, hl, R, h⟩ => by
    unfold evalE at h
    refine seqE hl R h fun u H1 z1 S1 v a1 rv => ?_
    have h1 := a1.h
    cases v with
    | ref i => exact h1.elim
    | d x =>
      cases x with
      | bool i =>
        have e : u = .bl i := rel_bool a1.R rfl rv
        subst e
        refine ⟨i, rfl, ?_⟩
        cases i with
        | true => rw [if_pos rfl]; exact ⟨z1, l, S1, a1.L, a1.R, h1⟩
        | false => rw [if_neg Bool.false_ne_true]; exact Post.ok a1.R h1 _ rD_b
      | _ => exact h1.elim
theorem e_or (ha : PE X a (rdE C W ma)) (hb : PE X (.BoolOp .Or (b :: rest) pos) (rdE C W mb)) : PE X (.BoolOp .Or (a :: b :: rest) pos) (rdE C W (.or ma mb)) :=
  PE.imp (pe_or ha hb) fun σ H Q ⟨z, l, S, hl, R, h⟩ => by
    unfold evalE at h
    refine seqE hl R h fun u H1 z1 S1 v a1 rv => ?_
    have h1 := a1.h
    cases v with
    | ref i => exact h1.elim
    | d x =>
      cases x with
      | bool i =>
        have e : u = .bl i := rel_bool a1.R rfl rv
        subst e
        refine ⟨i, rfl, ?_⟩
        cases i with
        | false => rw [if_neg Bool.false_ne_true]; exact ⟨z1, l, S1, a1.L, a1.R, h1⟩
        | true => rw [if_pos rfl]; exact Post.ok a1.R h1 _ rD_b
      | _ => exact h1.elim
theorem e_ite (hc : PT X c (rdT C W mc)) (ha : PE X a (rdE C W ma)) (hb : PE X b (rdE C W mb)) : PE X (.IfExp c a b pos) (rdE C W (.ite mc ma mb)) :=
  PE.imp (pe_ifExp hc ha hb) fun σ H Q ⟨z, l, S, hl, R, h⟩ => by
    unfold evalE at h
    refine seqT hl R h fun k H1 z1 S1 a1 => ?_
    have h1 := a1.h
    cases k with
    | true => rw [if_pos rfl] at h1 ⊢; exact ⟨z1, l, S1, a1.L, a1.R, h1⟩
    | false => rw [if_neg Bool.false_ne_true] at h1 ⊢; exact ⟨z1, l, S1, a1.L, a1.R, h1⟩

/-! ### tests -/
theorem truth_rel {K : PySem.W.Frag} {z : Z} {S : Sto} {H : Hp} {v : DV} {u : V} {p : PyData} {k : Bool} (R : Rep z S H) (ex : asP S v = some p) (ht : truthP p = some k) (r : RelD z S H v u) : TruV K u H k := by
  cases p with
  | none => have e := rel_none R ex r; subst e; exact (Option.some.inj (show some false = some k from ht)).symm
  | bool b => have e := rel_bool R ex r; subst e; exact (Option.some.inj (show some b = some k from ht)).symm
  | int i => have e := rel_int R ex r; subst e; exact (Option.some.inj (show some (i != 0) = some k from ht)).symm
  | list xs =>
    have hk := Option.some.inj (show some (!xs.isEmpty) = some k from ht)
    obtain ⟨a, ys, e, d, rs⟩ := rel_list R ex r
    subst e
    refine .inl ⟨ys, .inl d, ?_⟩
    have := rs.length
    cases xs <;> cases ys <;> simp at this <;> exact hk.symm
  | tuple xs =>
    have hk := Option.some.inj (show some (!xs.isEmpty) = some k from ht)
    obtain ⟨a, ys, e, d, rs, _⟩ := rel_tup ex r
    subst e
    refine .inr (.inl ⟨ys, .inl d, ?_⟩)
    have := rs.length
    cases xs <;> cases ys <;> simp at this <;> exact hk.symm
  | str _ => cases ht
  | dict _ => cases ht
def PlainT (C : Calls) (m : ME) : Prop := ∀ l S, evalT C m l S = (evalE C m l S).bind fun v S1 => ofO ((asP S1 v).bind truthP) S1
theorem t_val (ha : PE X a (rdE C W ma)) (hp : PlainT C ma := by intro _ _; rfl) (he : ∀ whole, isTrue a X.env whole = (do let v ← whole; standAt a.pos; holding [v] (truthy v)) := by intro _; rfl) : PT X a (rdT C W ma) :=
  PT.imp (pt_truth ha he) fun σ H Q ⟨z, l, S, hl, R, h⟩ => by
    rw [hp] at h
    refine seqE hl R h fun u H1 z1 S1 v a1 rv => ?_
    obtain ⟨k, e, q⟩ := Post.ofO a1.R a1.h
    cases ex : asP S1 v with
    | none => rw [ex] at e; cases e
    | some p =>
      rw [ex] at e
      exact ⟨k, truth_rel a1.R ex e rv, q⟩
theorem t_not (ha : PT X a (rdT C W ma)) : PT X (.UnaryOp .Not a pos) (rdT C W (.not ma)) :=
  PT.imp (pt_not ha) fun σ H Q ⟨z, l, S, hl, R, h⟩ => by
    unfold evalT at h
    exact seqT hl R h fun k H1 z1 S1 a1 => Post.ok a1.R a1.h
theorem w_one_and (ha : PT X a (rdT C W ma)) : PW X (.BoolOp .And [a] pos) (rdT C W ma) := pw_and1 ha
theorem w_one_or (ha : PT X a (rdT C W ma)) : PW X (.BoolOp .Or [a] pos) (rdT C W ma) := pw_or1 ha
theorem w_and (ha : PT X a (rdT C W ma)) (hb : PW X (.BoolOp .And (b :: rest) pos) (rdT C W mb)) : PW X (.BoolOp .And (a :: b :: rest) pos) (rdT C W (.and ma mb)) :=
  PW.imp (pw_and ha hb) fun σ H Q ⟨z, l, S, hl, R, h⟩ => by
    unfold evalT at h
    refine seqT hl R h fun k H1 z1 S1 a1 => ?_
    have h1 := a1.h
    cases k with
    | true => rw [if_pos rfl] at h1 ⊢; exact ⟨z1, l, S1, a1.L, a1.R, h1⟩
    | false => rw [if_neg Bool.false_ne_true] at h1 ⊢; exact Post.ok a1.R h1
theorem w_or (ha : PT X a (rdT C W ma)) (hb : PW X (.BoolOp .Or (b :: rest) pos) (rdT C W mb)) : PW X (.BoolOp .Or (a :: b :: rest) pos) (rdT C W (.or ma mb)) :=
  PW.imp (pw_or ha hb) fun σ H Q ⟨z, l, S, hl, R, h⟩ => by
    unfold evalT at h
    refine seqT hl R h fun k H1 z1 S1 a1 => ?_
    have h1 := a1.h
    cases k with
    | false => rw [if_neg Bool.false_ne_true] at h1 ⊢; exact ⟨z1, l, S1, a1.L, a1.R, h1⟩
    | true => rw [if_pos rfl] at h1 ⊢; exact Post.ok a1.R h1
/-! ### arguments, displays -/
theorem evalEs_len : ∀ (ms : List ME) (l : Loc) (S : Sto) (vs : List DV) (S' : Sto), evalEs C ms l S = .ok vs S' → vs.length = ms.length
  | [], l, S, vs, S', h => by unfold evalEs at h; cases h; rfl
  | m :: ms, l, S, vs, S', h => by
    unfold evalEs at h
    cases q : evalE C m l S with
    | ok v S1 =>
      rw [q] at h
      cases q2 : evalEs C ms l S1 with
      | ok ws S2 =>
        have h : Res.bind (evalEs C ms l S1) _ = _ := h
        rw [q2] at h
        cases h
        rw [List.length_cons, List.length_cons, evalEs_len ms l S1 ws S' q2]
      | err _ _ _ => have h : Res.bind (evalEs C ms l S1) _ = _ := h; rw [q2] at h; cases h
      | stuck => have h : Res.bind (evalEs C ms l S1) _ = _ := h; rw [q2] at h; cases h
    | err _ _ _ => rw [q] at h; cases h
    | stuck => rw [q] at h; cases h
theorem a_nil : PA X [] (rdA C W []) := PA.imp pa_nil fun σ H Q ⟨z, l, S, hl, R, h⟩ => by
  unfold evalEs at h
  exact Post.ok R h [] rfl
theorem a_cons (ha : PE X a (rdE C W ma)) (hr : PA X es (rdA C W ms)) (hs : starEach (a :: es) X.env = (false, eval a X.env) :: starEach es X.env := by rfl) : PA X (a :: es) (rdA C W (ma :: ms)) :=
  PA.imp (pa_cons ha hr hs) fun σ H Q ⟨z, l, S, hl, R, h⟩ => by
    unfold evalEs at h
    refine seqE hl R h fun u H1 z1 S1 v a1 rv => ?_
    refine seqA a1.L a1.R a1.h fun us H2 z2 S2 vs a2 rvs => ?_
    exact Post.ok a2.R a2.h (u :: us) ⟨u, us, rfl, rv.tr a2.t, rvs⟩
theorem seqA' {β : Type} {l : Loc} {z : Z} {S : Sto} {H : Hp} {σ : L2.St} {k : β → Z → Sto → Hp → Prop} {f : List DV → Sto → Res β} (hl : RelL z S H l σ) (R : Rep z S H) (h : Post W l z S H ((evalEs C ms l S).bind f) k) {Q : List V → Hp → Prop}
    (m : ∀ us H1 z1 S1 vs, At W l z S H σ H1 z1 S1 (f vs S1) k → RelDs z1 S1 H1 vs us → vs.length = ms.length → Q us H1) : rdA C W ms σ H Q := by
  refine ⟨z, l, S, hl, R, ?_⟩
  cases q : evalEs C ms l S with
  | ok vs S1 =>
    rw [q] at h
    have n := evalEs_len ms l S vs S1 q
    exact fun z1 H1 t R1 us ru => m us H1 z1 S1 vs ⟨t, hl.tr t, R1, Post.bind (r := Res.ok vs S1) h z1 H1 t R1⟩ ru n
  | err c x S1 => rw [q] at h; exact h
  | stuck => rw [q] at h; exact h
theorem e_tup {x1} (ha : PA X es (rdA C W ms)) (hn : ms.length ≤ LIM := by decide) : PE X (.Tuple es x1 pos) (rdE C W (.tup ms)) :=
  PE.imp (pe_tup ha) fun σ H Q ⟨z, l, S, hl, R, h⟩ => by
    unfold evalE at h
    refine seqA' hl R h fun us H1 z1 S1 vs a1 rs n => ?_
    obtain ⟨v, e, q⟩ := Post.ofO a1.R a1.h
    cases q2 : unD vs with
    | none => rw [q2] at e; cases e
    | some ps =>
      rw [q2] at e; cases e
      refine ⟨by rw [← RelDs.length rs, n]; exact lim_line hn, fun p hp => ?_⟩
      obtain ⟨t, R', d⟩ := rel_newT a1.R hp (RelDs.un q2 rs)
      have h1 := a1.h
      rw [q2] at h1
      exact h1 _ _ t R' _ d
theorem e_lst (m : Bool) (ha : PA X es (rdA C W ms)) (hn : ms.length ≤ LIM := by decide) : PE X (.List es pos) (rdE C W (.lst m ms)) :=
  PE.imp (pe_lst ha) fun σ H Q ⟨z, l, S, hl, R, h⟩ => by
    unfold evalE at h
    refine seqA' hl R h fun us H1 z1 S1 vs a1 rs n => ?_
    have h1 := a1.h
    cases q2 : unD vs with
    | none => rw [q2] at h1; exact h1.elim
    | some ps =>
      rw [q2] at h1
      refine ⟨by rw [← RelDs.length rs, n]; exact lim_line hn, fun p hp => ?_⟩
      obtain ⟨v, z', S', k1, r1⟩ := new_list a1.R hp (RelDs.un q2 rs) h1
      exact k1 _ r1
theorem e_box (ha : PA X es (rdA C W ms)) (hn : ms.length ≤ LIM := by decide) : PE X (.List es pos) (rdE C W (.box ms)) :=
  PE.imp (pe_lst ha) fun σ H Q ⟨z, l, S, hl, R, h⟩ => by
    unfold evalE at h
    refine seqA' hl R h fun us H1 z1 S1 vs a1 rs n => ?_
    refine ⟨by rw [← RelDs.length rs, n]; exact lim_line hn, fun p hp => ?_⟩
    obtain ⟨t, R'⟩ := rep_put (o := .box vs) (ho := .lst us) a1.R hp fun t => ⟨us, upd_same, rs.tr t⟩
    exact a1.h _ _ t R' _ ⟨by simp, by rw [put_new]⟩
end
end Ev
end
section
set_option maxRecDepth 100000
set_option maxHeartbeats 4000000
/-! EvR4: indexes, slices, chains of comparisons, built-in functions. -/
namespace Ev
open PySem PySem.Spec PyProof.Rows L2
section
variable {X : Cx} {W : WS} {C : Calls} {a b c d e : Expr} {es rest : List Expr} {ma mb mc md : ME} {ms : List ME} {pos : Pos}
theorem atI_rel {H : Hp} {L : Addr → Prop} {xs : List PyData} {ys : List V} {i : Int} {x : PyData} (r : RelPs H L xs ys) (h : atI xs i = some x) : ∃ y, atI ys i = some y ∧ RelP H L x y := by
  unfold atI at h ⊢
  rw [← r.length]
  cases q : ixN xs.length i with
  | none => rw [q] at h; cases h
  | some j => rw [q] at h; exact r.get h
theorem atI_relD {z : Z} {S : Sto} {H : Hp} {xs : List DV} {ys : List V} {i : Int} {x : DV} (r : RelDs z S H xs ys) (h : atI xs i = some x) : ∃ y, atI ys i = some y ∧ RelD z S H x y := by
  unfold atI at h ⊢
  rw [← r.length]
  cases q : ixN xs.length i with
  | none => rw [q] at h; cases h
  | some j => rw [q] at h; exact r.get h
theorem e_ix (ha : PE X a (rdE C W ma)) (hb : PE X b (rdE C W mb)) (hs : PlainIx b := by exact fun _ _ => rfl) : PE X (.Subscript a b pos) (rdE C W (.ix ma mb)) :=
  PE.imp (pe_ix (ix_list.or ix_tup) ha hb hs) fun σ H Q ⟨z, l, S, hl, R, h⟩ => by
    unfold evalE at h
    refine seqE hl R h fun u H1 z1 S1 x a1 rx => ?_
    refine seqE a1.L a1.R a1.h fun v H2 z2 S2 y a2 ry => ?_
    have rx2 := rx.tr a2.t
    have h2 := a2.h
    cases x with
    | ref j =>
      obtain ⟨hj, eu⟩ := rx2
      cases y with
      | ref _ => exact h2.elim
      | d q =>
        cases q with
        | int k =>
          have ev := rel_int a2.R rfl ry
          subst ev eu
          dsimp only at h2
          cases q : S2[j]? with
          | none => rw [q] at h2; exact h2.elim
          | some o =>
            rw [q] at h2
            cases o with
            | box vs =>
              obtain ⟨w, e, k1⟩ := Post.ofO a2.R h2
              obtain ⟨ys, g1, g2⟩ := a2.R.at_ j _ q
              obtain ⟨y, e2, r2⟩ := atI_relD g2 e
              exact .inl ⟨_, ys, k, y, rfl, rfl, .inl (.inl g1), e2, k1 y r2⟩
            | lst vs =>
              obtain ⟨w, e, k1⟩ := Post.ofO a2.R h2
              cases e1 : atI vs k with
              | none => rw [e1] at e; cases e
              | some p =>
                rw [e1] at e; cases e
                obtain ⟨ys, g1, g2⟩ := a2.R.at_ j _ q
                obtain ⟨y, e2, r2⟩ := atI_rel g2 e1
                exact .inl ⟨_, ys, k, y, rfl, rfl, .inl (.inl g1), e2, k1 y r2⟩
            | dT _ => exact h2.elim
            | dK _ => exact h2.elim
        | _ => exact h2.elim
    | d p =>
      cases y with
      | ref _ => exact h2.elim
      | d q =>
        obtain ⟨w, e, k1⟩ := Post.ofO a2.R h2
        cases e1 : ixP p q with
        | none => rw [e1] at e; cases e
        | some x =>
          rw [e1] at e; cases e
          cases p <;> cases q <;> simp only [ixP] at e1 <;> try (cases e1; done)
          · rename_i xs i
            have ev := rel_int a2.R rfl ry
            obtain ⟨ad, ys, eu, dd, rr⟩ := rel_list a2.R rfl rx2
            subst ev eu
            obtain ⟨y, e2, r2⟩ := atI_rel rr e1
            exact .inl ⟨_, ys, i, y, rfl, rfl, .inl dd, e2, k1 y r2⟩
          · rename_i xs i
            have ev := rel_int a2.R rfl ry
            obtain ⟨ad, ys, eu, dd, rr, _⟩ := rel_tup rfl rx2
            subst ev eu
            obtain ⟨y, e2, r2⟩ := atI_rel rr e1
            exact .inr ⟨_, ys, i, y, rfl, rfl, .inl dd, e2, k1 y r2⟩
/-! ### slices -/
def rdO (C : Calls) (W : WS) (m : Option ME) : TO := fun σ H Q => ∃ z l S, RelL z S H l σ ∧ Rep z S H ∧ Post W l z S H (evalO C m l S) (fun b _ _ H' => Q b H')
theorem PO.imp {e : Option Expr} {t t' : TO} (h : PO X e t) (m : ∀ σ H Q, t' σ H Q → t σ H Q) : PO X e t' := ⟨fun pins s σ H Q I q => h.run pins s σ H Q I (m σ H Q q)⟩
theorem o_none : PO X none (rdO C W none) := PO.imp po_none fun σ H Q ⟨z, l, S, hl, R, h⟩ => by
  unfold evalO at h
  exact Post.ok R h
theorem o_some (ha : PE X a (rdE C W ma)) : PO X (some a) (rdO C W (some ma)) := PO.imp (po_some ha) fun σ H Q ⟨z, l, S, hl, R, h⟩ => by
  unfold evalO at h
  refine seqE hl R h fun u H1 z1 S1 v a1 rv => ?_
  have h1 := a1.h
  cases v with
  | ref _ => exact h1.elim
  | d x =>
    cases x with
    | int i => exact ⟨i, rel_int a1.R rfl rv, Post.ok a1.R h1⟩
    | _ => exact h1.elim
theorem seqO {β : Type} {l : Loc} {z : Z} {S : Sto} {H : Hp} {σ : L2.St} {k : β → Z → Sto → Hp → Prop} {m : Option ME} {f : Option Int → Sto → Res β} (hl : RelL z S H l σ) (R : Rep z S H) (h : Post W l z S H ((evalO C m l S).bind f) k) {Q : Option Int → Hp → Prop}
    (g : ∀ b H1 z1 S1, At W l z S H σ H1 z1 S1 (f b S1) k → Q b H1) : rdO C W m σ H Q :=
  ⟨z, l, S, hl, R, h.bind.mono fun v z1 S1 H1 t R1 h1 => g v H1 z1 S1 ⟨t, hl.tr t, R1, h1⟩⟩
theorem cut_rel {H : Hp} {L : Addr → Prop} {xs : List PyData} {ys : List V} (r : RelPs H L xs ys) (lo hi : Option Int) : RelPs H L (cutP xs lo hi) (cutV ys lo hi) := by
  unfold cutP cutV
  rw [← r.length]
  exact (r.drop _).take _
theorem cutP_all {xs : List PyData} {lo hi : Option Int} (h : HT.sIx xs.length 0 lo = 0 ∧ HT.sIx xs.length xs.length hi = xs.length) : cutP xs lo hi = xs := by
  unfold cutP
  rw [h.1, h.2]
  simp
theorem e_sl {lo hi : Option Expr} {ml mh : Option ME} {p2 : Pos} (ha : PE X a (rdE C W ma)) (hl : PO X lo (rdO C W ml)) (hh : PO X hi (rdO C W mh)) : PE X (.Subscript a (.Slice lo hi none p2) pos) (rdE C W (.sl ma ml mh)) :=
  PE.imp (pe_slice (sl_list.or sl_tupA) ha hl hh) fun σ H Q ⟨z, l, S, hl, R, h⟩ => by
    unfold evalE at h
    refine seqE hl R h fun u H1 z1 S1 x a1 rx => ?_
    refine seqO a1.L a1.R a1.h fun p H2 z2 S2 a2 => ?_
    refine seqO a2.L a2.R a2.h fun q H3 z3 S3 a3 => ?_
    have rx3 := (rx.tr a2.t).tr a3.t
    have h3 := a3.h
    cases ex : asP S3 x with
    | none => rw [ex] at h3; exact h3.elim
    | some w =>
      rw [ex] at h3
      cases w with
      | list xs =>
        obtain ⟨ad, ys, eu, dd, rr⟩ := rel_list a3.R ex rx3
        subst eu
        refine .inl ⟨ad, ys, rfl, .inl dd, fun pp hp => ?_⟩
        obtain ⟨t, R', d⟩ := rel_newL a3.R hp (cut_rel rr p q)
        exact h3 _ _ t R' _ d
      | tuple xs =>
        obtain ⟨ad, ys, eu, dd, rr, rx'⟩ := rel_tup ex rx3
        subst eu
        refine .inr ⟨ad, ys, rfl, .inl dd, fun hw => ?_, fun hw pp hp => ?_⟩
        · rw [← rr.length] at hw
          dsimp only at h3
          rw [cutP_all hw] at h3
          exact Post.ok a3.R h3 _ rx'
        · obtain ⟨t, R', d⟩ := rel_newT a3.R hp (cut_rel rr p q)
          exact h3 _ _ t R' _ d
      | _ => exact h3.elim

/-! ### chains -/
theorem chain_step {β : Type} {o : Cmp} {r : R2} (hk : OpOk r (cmpD o)) {l : Loc} {z : Z} {S : Sto} {H : Hp} {σ : L2.St} {x y : DV} {u v : V} {f : Bool → Sto → Res β} {k : β → Z → Sto → Hp → Prop} {Q : VK} (hl : RelL z S H l σ) (R : Rep z S H) (rx : RelD z S H x u) (ry : RelD z S H y v)
    (h : Post W l z S H ((ofO ((asP S x).bind fun p => (asP S y).bind fun q => cmpP o p q) S).bind f) k)
    (m : ∀ kk H1, Tr z S H z S H1 → Rep z S H1 → Post W l z S H1 (f kk S) k → Q (.bl kk) H1) : r u v H Q := by
  cases ex : asP S x with
  | none => rw [ex] at h; exact h.elim
  | some p =>
    cases ey : asP S y with
    | none => rw [ex, ey] at h; exact h.elim
    | some q =>
      cases ef : cmpP o p q with
      | none => rw [ex, ey] at h; simp only [Option.bind_some, ef] at h; exact h.elim
      | some w =>
        rw [ex, ey] at h; simp only [Option.bind_some, ef, ofO_some, Res.bind_ok] at h
        refine hk W l z S H x y u v p q (.bool w) Q R rx ry ex ey (by unfold cmpD; rw [ef]; rfl) fun H' u' t R' r' => ?_
        have e : u' = .bl w := rel_bool R' rfl r'
        subst e
        refine m w H' t R' ?_
        exact Post.bind (r := Res.ok w S) h z H' t R'
theorem e_chain2 {o o' : Cmp} {op op' : CmpOp} {r r' : R2} (ho : OpR X (compareOp op) r) (ho' : OpR X (compareOp op') r') (hk : OpOk r (cmpD o)) (hk' : OpOk r' (cmpD o')) (ha : PE X a (rdE C W ma)) (hb : PE X b (rdE C W mb)) (hc : PE X c (rdE C W mc))
    (hm : lastMarks [op, op'] [b, c] = false := by with_unfolding_all rfl) : PE X (.Compare a [op, op'] [b, c] pos) (rdE C W (.chain2 ma o mb o' mc)) :=
  PE.imp (pe_chain ho ho' ha hb hc hm) fun σ H Q ⟨z, l, S, hl, R, h⟩ => by
    unfold evalE at h
    refine seqE hl R h fun u H1 z1 S1 x a1 rx => ?_
    refine seqE a1.L a1.R a1.h fun v H2 z2 S2 y a2 ry => ?_
    refine chain_step hk a2.L a2.R (rx.tr a2.t) ry a2.h fun kk H3 t3 R3 h3 => ⟨kk, rfl, ?_⟩
    cases kk with
    | false => rw [if_neg Bool.false_ne_true] at h3 ⊢; exact Post.ok R3 h3 _ rD_b
    | true =>
      rw [if_pos rfl] at h3 ⊢
      refine seqE (a2.L.tr t3) R3 h3 fun w H4 z4 S4 y' a4 rw' => ?_
      have ry4 := (ry.tr t3).tr a4.t
      have h4 := a4.h
      cases ex : asP S4 y with
      | none => rw [ex] at h4; exact h4.elim
      | some p =>
        cases ey : asP S4 y' with
        | none => rw [ex, ey] at h4; exact h4.elim
        | some q =>
          cases ef : cmpP o' p q with
          | none => rw [ex, ey] at h4; simp only [Option.bind_some, ef] at h4; exact h4.elim
          | some k2 =>
            rw [ex, ey] at h4; simp only [Option.bind_some, ef, Option.map_some] at h4
            exact hk' W l z4 S4 H4 y y' v w p q (.bool k2) Q a4.R ry4 rw' ex ey (by unfold cmpD; rw [ef]; rfl) fun H' u' t R' r' => h4 _ _ t R' u' r'

/-! ### built-in functions -/
def BiOk (b : BI) (r : List V → Hp → VK → Prop) : Prop := ∀ (W : WS) (l : Loc) (z : Z) (S : Sto) (H : Hp) (vs : List DV) (us : List V) (Q : VK), Rep z S H → RelDs z S H vs us →
  Post W l z S H (biP b vs S) (fun v z' S' H' => ∀ u, RelD z' S' H' v u → Q u H') → r us H Q
theorem bi_rd {b : BI} {r : List V → Hp → VK → Prop} (hk : BiOk b r) {σ : L2.St} {H : Hp} {Q : VK} (h : rdE C W (.bi b ms) σ H Q) : tCB r (rdA C W ms) σ H Q := by
  obtain ⟨z, l, S, hl, R, h⟩ := h
  unfold evalE at h
  exact seqA hl R h fun us H1 z1 S1 vs a1 rs => hk W l z1 S1 H1 vs us Q a1.R rs a1.h
theorem e_bi {b : BI} {id : String} {r : List V → Hp → VK → Prop} {x : Str} {p : Pos} (hc : CallR X (.builtin id) r) (hk : BiOk b r) (hm : X.mg x = none) (hv : bootBuiltins x = some (.builtin id)) (ha : PA X (e :: es) (rdA C W ms)) (hg : Gl X x := by rfl) (hn : x ≠ "__name__" := by decide)
    (hdb : (x == ("__debug__" : Str)) = false := by decide) (he : starEach (e :: es) X.env = (false, eval e X.env) :: starEach es X.env := by rfl) (hpl : (backTo pos (starEach es X.env)).any (·.1) = false := by rfl) : PE X (.Call (.Name x p) (e :: es) [] pos) (rdE C W (.bi b ms)) :=
  PE.imp (pe_callB hc hg hm hv ha hn hdb he hpl) fun σ H Q h => bi_rd hk h
theorem e_biT {b : BI} {id : String} {r : List V → Hp → VK → Prop} {x : Str} {p : Pos} (hc : CallR X (.type id) r) (hk : BiOk b r) (hm : X.mg x = none) (hv : bootBuiltins x = some (.type id)) (ha : PA X (e :: es) (rdA C W ms)) (hg : Gl X x := by rfl) (hn : x ≠ "__name__" := by decide)
    (hdb : (x == ("__debug__" : Str)) = false := by decide) (he : starEach (e :: es) X.env = (false, eval e X.env) :: starEach es X.env := by rfl) (hpl : (backTo pos (starEach es X.env)).any (·.1) = false := by rfl) : PE X (.Call (.Name x p) (e :: es) [] pos) (rdE C W (.bi b ms)) :=
  PE.imp (pe_callTy hc hg hm hv ha hn hdb he hpl) fun σ H Q h => bi_rd hk h
theorem one_of {z : Z} {S : Sto} {H : Hp} {v : DV} {us : List V} (h : RelDs z S H [v] us) : ∃ u, us = [u] ∧ RelD z S H v u := by
  obtain ⟨y, r, e, h1, h2⟩ := h
  unfold RelDs at h2
  subst h2
  exact ⟨y, e, h1⟩
theorem two_of {z : Z} {S : Sto} {H : Hp} {v w : DV} {us : List V} (h : RelDs z S H [v, w] us) : ∃ u y, us = [u, y] ∧ RelD z S H v u ∧ RelD z S H w y := by
  obtain ⟨y, r, e, h1, h2⟩ := h
  obtain ⟨y2, e2, h3⟩ := one_of h2
  subst e2
  exact ⟨y, y2, e, h1, h3⟩
/-- a list or a tuple, read -/
theorem seq_rel {z : Z} {S : Sto} {H : Hp} {v : DV} {u : V} {p : PyData} {xs : List PyData} (R : Rep z S H) (ex : asP S v = some p) (es : seqP p = some xs) (r : RelD z S H v u) :
    ∃ a ys, u = .ref a ∧ RelPs H (Live z S) xs ys ∧ ((p = .list xs ∧ Rd H a (.lst ys)) ∨ (p = .tuple xs ∧ Rd H a (.tup ys) ∧ RelP H (Live z S) p u)) := by
  cases p <;> simp only [seqP] at es <;> try (cases es; done)
  · cases es
    obtain ⟨a, ys, e, d, rs⟩ := rel_list R ex r
    exact ⟨a, ys, e, rs, .inl ⟨rfl, d⟩⟩
  · cases es
    obtain ⟨a, ys, e, d, rs, r'⟩ := rel_tup ex r
    exact ⟨a, ys, e, rs, .inr ⟨rfl, d, r'⟩⟩
theorem on1_ok {α : Type} {vs : List DV} {f : DV → Res DV} {W : WS} {l : Loc} {z : Z} {S : Sto} {H : Hp} {us : List V} {k : DV → Z → Sto → Hp → Prop} (rs : RelDs z S H vs us) (h : Post W l z S H (on1 vs f) k) : ∃ v u, vs = [v] ∧ us = [u] ∧ RelD z S H v u ∧ Post W l z S H (f v) k := by
  cases vs with
  | nil => exact h.elim
  | cons v t =>
    cases t with
    | cons _ _ => exact h.elim
    | nil =>
      obtain ⟨u, e, r⟩ := one_of rs
      exact ⟨v, u, rfl, e, r, h⟩
theorem seqV_rel {z : Z} {S : Sto} {H : Hp} {v : DV} {u : V} {xs : List PyData} (R : Rep z S H) (e : seqV S v = some xs) (r : RelD z S H v u) :
    ∃ a ys, u = .ref a ∧ RelPs H (Live z S) xs ys ∧ (Rd H a (.lst ys) ∨ (Rd H a (.tup ys) ∧ RelP H (Live z S) (.tuple xs) u)) := by
  unfold seqV at e
  cases ex : asP S v with
  | none => rw [ex] at e; cases e
  | some p =>
    rw [ex] at e
    obtain ⟨a, ys, h1, h2, h3⟩ := seq_rel R ex e r
    rcases h3 with ⟨_, h⟩ | ⟨e2, h, h4⟩
    · exact ⟨a, ys, h1, h2, .inl h⟩
    · subst e2; exact ⟨a, ys, h1, h2, .inr ⟨h, h4⟩⟩
theorem lstP_as {S : Sto} {v : DV} {xs : List PyData} (e : lstP S v = some xs) : asP S v = some (.list xs) := by
  unfold lstP at e
  split at e
  · rename_i q; rw [q, Option.some.inj e]
  · cases e
theorem kLen {K : PySem.W.Frag} : BiOk .len (fun xs H Q => ∃ p ys, xs = [.ref p] ∧ (SqL K H p ys ∨ SqT K H p ys) ∧ Q (.int ys.length) H) := by
  intro W l z S H vs us Q R rs h
  obtain ⟨v, u, rfl, rfl, r, h⟩ := on1_ok (α := Unit) rs h
  obtain ⟨w, e, k1⟩ := Post.ofO R h
  cases ex : seqV S v with
  | none => rw [ex] at e; cases e
  | some xs =>
    rw [ex] at e; cases e
    obtain ⟨a, ys, rfl, rr, dd⟩ := seqV_rel R ex r
    refine ⟨a, ys, rfl, dd.elim (fun q => .inl (.inl q)) (fun q => .inr (.inl q.1)), ?_⟩
    rw [← rr.length]
    exact k1 _ rD_i
end
end Ev
end
section
set_option maxRecDepth 100000
set_option maxHeartbeats 4000000
/-! EvR5: more built-in functions, own functions, methods of lists. -/
namespace Ev
open PySem PySem.Spec PyProof.Rows L2
section
variable {X : Cx} {W : WS} {C : Calls} {a b c d e : Expr} {es rest : List Expr} {ma mb mc md : ME} {ms : List ME} {pos : Pos}
theorem ints2_ok {vs : List DV} {f : Int → Int → Res DV} {W : WS} {l : Loc} {z : Z} {S : Sto} {H : Hp} {us : List V} {k : DV → Z → Sto → Hp → Prop} (R : Rep z S H) (rs : RelDs z S H vs us) (h : Post W l z S H (ints2 vs S f) k) : ∃ i j, us = [.int i, .int j] ∧ Post W l z S H (f i j) k := by
  unfold ints2 at h
  split at h
  · obtain ⟨u, v, e, r1, r2⟩ := two_of rs
    split at h
    · rename_i e1 e2
      exact ⟨_, _, by rw [e, rel_int R e1 r1, rel_int R e2 r2], h⟩
    · exact h.elim
  · exact h.elim
theorem kMin2 : BiOk .min2 (fun xs H Q => ∃ i j, xs = [.int i, .int j] ∧ Q (.int (if j < i then j else i)) H) := by
  intro W l z S H vs us Q R rs h
  obtain ⟨i, j, e, h⟩ := ints2_ok R rs h
  exact ⟨i, j, e, Post.ok R h _ rD_i⟩
theorem kMax2 : BiOk .max2 (fun xs H Q => ∃ i j, xs = [.int i, .int j] ∧ Q (.int (if j > i then j else i)) H) := by
  intro W l z S H vs us Q R rs h
  obtain ⟨i, j, e, h⟩ := ints2_ok R rs h
  exact ⟨i, j, e, Post.ok R h _ rD_i⟩
theorem kInt : BiOk .int (fun xs H Q => (∃ i, xs = [.int i] ∧ Q (.int i) H) ∨ ∃ k, xs = [.bl k] ∧ Q (.int (if k then 1 else 0)) H) := by
  intro W l z S H vs us Q R rs h
  obtain ⟨v, u, rfl, rfl, r, h⟩ := on1_ok (α := Unit) rs h
  unfold bInt at h
  split at h
  · rename_i i e; exact .inl ⟨i, by rw [rel_int R e r], Post.ok R h _ rD_i⟩
  · rename_i i e; exact .inr ⟨i, by rw [rel_bool R e r], Post.ok R h _ rD_i⟩
  · exact h.elim
theorem sumI_ints : ∀ {xs : List PyData} {i : Int}, sumI xs = some i → ∃ ns, intsOf xs = some ns ∧ ns.sum = i
  | [], i, h => by cases h; exact ⟨[], rfl, rfl⟩
  | x :: xs, i, h => by
    cases x <;> simp [sumI] at h
    rename_i k
    obtain ⟨j, h1, h2⟩ := h
    obtain ⟨ns, e1, e2⟩ := sumI_ints h1
    exact ⟨k :: ns, by simp [intsOf, e1], by rw [List.sum_cons, e2]; exact h2⟩
/-- a list of ints, for the rules that ask SqL -/
theorem lst_only {p : PyData} {xs : List PyData} (hp : p = .list xs ∨ p = .tuple xs) : True := trivial
theorem kSum {K : PySem.W.Frag} : BiOk .sum (fun xs H Q => ∃ (a : Addr) (ns : List Int), xs = [V.ref a] ∧ SqL K H a (ns.map V.int) ∧ Q (.int ns.sum) H) := by
  intro W l z S H vs us Q R rs h
  obtain ⟨v, u, rfl, rfl, r, h⟩ := on1_ok (α := Unit) rs h
  obtain ⟨w, e, k1⟩ := Post.ofO R h
  cases ex : lstP S v with
  | none => rw [ex] at e; cases e
  | some xs =>
    rw [ex] at e
    simp only [Option.bind_some] at e
    cases es : sumI xs with
    | none => rw [es] at e; cases e
    | some i =>
      rw [es] at e; cases e
      obtain ⟨ns, e1, e2⟩ := sumI_ints es
      obtain ⟨a, ys, rfl, dd, rr⟩ := rel_list R (lstP_as ex) r
      have := ints_rel e1 rr
      subst this e2
      exact ⟨a, ns, rfl, .inl dd, k1 _ rD_i⟩
theorem bools_rel {H : Hp} {L : Addr → Prop} : ∀ {xs : List PyData} {ns : List Bool} {ys : List V}, boolsOf xs = some ns → RelPs H L xs ys → ys = ns.map V.bl
  | [], ns, ys, h, r => by cases h; unfold RelPs at r; exact r
  | x :: xs, ns, ys, h, r => by
    cases x <;> simp [boolsOf] at h
    obtain ⟨ms, h1, rfl⟩ := h
    unfold RelPs at r
    obtain ⟨y, t, rfl, r1, r2⟩ := r
    unfold RelP at r1
    subst r1
    rw [bools_rel h1 r2]; rfl
theorem kAll {K : PySem.W.Frag} : BiOk .all (fun xs H Q => ∃ (a : Addr) (bs : List Bool), xs = [V.ref a] ∧ SqL K H a (bs.map V.bl) ∧ Q (.bl (bs.all id)) H) := by
  intro W l z S H vs us Q R rs h
  obtain ⟨v, u, rfl, rfl, r, h⟩ := on1_ok (α := Unit) rs h
  obtain ⟨w, e, k1⟩ := Post.ofO R h
  cases ex : lstP S v with
  | none => rw [ex] at e; cases e
  | some xs =>
    rw [ex] at e
    simp only [Option.bind_some] at e
    cases es : boolsOf xs with
    | none => rw [es] at e; cases e
    | some i =>
      rw [es] at e; cases e
      obtain ⟨a, ys, rfl, dd, rr⟩ := rel_list R (lstP_as ex) r
      have := bools_rel es rr
      subst this
      exact ⟨a, i, rfl, .inl dd, k1 _ rD_b⟩
theorem kAny {K : PySem.W.Frag} : BiOk .any (fun xs H Q => ∃ (a : Addr) (bs : List Bool), xs = [V.ref a] ∧ SqL K H a (bs.map V.bl) ∧ Q (.bl (bs.any id)) H) := by
  intro W l z S H vs us Q R rs h
  obtain ⟨v, u, rfl, rfl, r, h⟩ := on1_ok (α := Unit) rs h
  obtain ⟨w, e, k1⟩ := Post.ofO R h
  cases ex : lstP S v with
  | none => rw [ex] at e; cases e
  | some xs =>
    rw [ex] at e
    simp only [Option.bind_some] at e
    cases es : boolsOf xs with
    | none => rw [es] at e; cases e
    | some i =>
      rw [es] at e; cases e
      obtain ⟨a, ys, rfl, dd, rr⟩ := rel_list R (lstP_as ex) r
      have := bools_rel es rr
      subst this
      exact ⟨a, i, rfl, .inl dd, k1 _ rD_b⟩
theorem foldmax : ∀ (r : List Int) (x : Int), x ≤ r.foldl (fun a b => if b > a then b else a) x ∧ (∀ y ∈ r, y ≤ r.foldl (fun a b => if b > a then b else a) x) ∧ (r.foldl (fun a b => if b > a then b else a) x = x ∨ r.foldl (fun a b => if b > a then b else a) x ∈ r)
  | [], x => ⟨Int.le_refl _, fun y h => by simp at h, .inl rfl⟩
  | b :: r, x => by
    have ih := foldmax r (if b > x then b else x)
    rw [List.foldl_cons]
    obtain ⟨h1, h2, h3⟩ := ih
    have hx : x ≤ (if b > x then b else x) := by split <;> omega
    have hb : b ≤ (if b > x then b else x) := by split <;> omega
    refine ⟨Int.le_trans hx h1, fun y hy => ?_, ?_⟩
    · rcases List.mem_cons.mp hy with e | e
      · rw [e]; exact Int.le_trans hb h1
      · exact h2 y e
    · rcases h3 with e | e
      · rw [e]; split
        · exact .inr List.mem_cons_self
        · exact .inl rfl
      · exact .inr (List.mem_cons_of_mem _ e)
theorem foldmin : ∀ (r : List Int) (x : Int), r.foldl (fun a b => if b < a then b else a) x ≤ x ∧ (∀ y ∈ r, r.foldl (fun a b => if b < a then b else a) x ≤ y) ∧ (r.foldl (fun a b => if b < a then b else a) x = x ∨ r.foldl (fun a b => if b < a then b else a) x ∈ r)
  | [], x => ⟨Int.le_refl _, fun y h => by simp at h, .inl rfl⟩
  | b :: r, x => by
    have ih := foldmin r (if b < x then b else x)
    rw [List.foldl_cons]
    obtain ⟨h1, h2, h3⟩ := ih
    have hx : (if b < x then b else x) ≤ x := by split <;> omega
    have hb : (if b < x then b else x) ≤ b := by split <;> omega
    refine ⟨Int.le_trans h1 hx, fun y hy => ?_, ?_⟩
    · rcases List.mem_cons.mp hy with e | e
      · rw [e]; exact Int.le_trans h1 hb
      · exact h2 y e
    · rcases h3 with e | e
      · rw [e]; split
        · exact .inr List.mem_cons_self
        · exact .inl rfl
      · exact .inr (List.mem_cons_of_mem _ e)
theorem maxI_spec {ns : List Int} {m i : Int} (h : maxI ns = some m) (hi : i ∈ ns) (hg : ∀ y ∈ ns, y ≤ i) : i = m := by
  cases ns with
  | nil => cases h
  | cons x r =>
    have h := Option.some.inj h
    obtain ⟨h1, h2, h3⟩ := foldmax r x
    rw [h] at h1 h2 h3
    have a : i ≤ m := by
      rcases List.mem_cons.mp hi with e | e
      · rw [e]; exact h1
      · exact h2 i e
    have b : m ≤ i := by
      rcases h3 with e | e
      · rw [e]; exact hg x List.mem_cons_self
      · exact hg m (List.mem_cons_of_mem _ e)
    omega
theorem minI_spec {ns : List Int} {m i : Int} (h : minI ns = some m) (hi : i ∈ ns) (hg : ∀ y ∈ ns, i ≤ y) : i = m := by
  cases ns with
  | nil => cases h
  | cons x r =>
    have h := Option.some.inj h
    obtain ⟨h1, h2, h3⟩ := foldmin r x
    rw [h] at h1 h2 h3
    have a : m ≤ i := by
      rcases List.mem_cons.mp hi with e | e
      · rw [e]; exact h1
      · exact h2 i e
    have b : i ≤ m := by
      rcases h3 with e | e
      · rw [e]; exact hg x List.mem_cons_self
      · exact hg m (List.mem_cons_of_mem _ e)
    omega
theorem intsV_rel {z : Z} {S : Sto} {H : Hp} {v : DV} {u : V} {ns : List Int} (R : Rep z S H) (e : intsV S v = some ns) (r : RelD z S H v u) : ∃ a, u = .ref a ∧ Rd H a (.lst (ns.map V.int)) := by
  unfold intsV at e
  cases ex : lstP S v with
  | none => rw [ex] at e; cases e
  | some xs =>
    rw [ex] at e
    obtain ⟨a, ys, e1, dd, rr⟩ := rel_list R (lstP_as ex) r
    have := ints_rel e rr
    subst this
    exact ⟨a, e1, dd⟩
theorem kMaxL {K : PySem.W.Frag} : BiOk .maxL (fun xs H Q => ∃ (a : Addr) (ns : List Int), xs = [V.ref a] ∧ SqL K H a (ns.map V.int) ∧ 0 < ns.length ∧ ∀ m, m ∈ ns → (∀ y, y ∈ ns → y ≤ m) → Q (.int m) H) := by
  intro W l z S H vs us Q R rs h
  obtain ⟨v, u, rfl, rfl, r, h⟩ := on1_ok (α := Unit) rs h
  obtain ⟨w, e, k1⟩ := Post.ofO R h
  cases ei : intsV S v with
  | none => rw [ei] at e; cases e
  | some ns =>
    rw [ei] at e
    simp only [Option.bind_some] at e
    cases em : maxI ns with
    | none => rw [em] at e; cases e
    | some m =>
      rw [em] at e; cases e
      obtain ⟨a, rfl, dd⟩ := intsV_rel R ei r
      refine ⟨a, ns, rfl, .inl dd, ?_, fun i hi hg => ?_⟩
      · cases ns with
        | nil => cases em
        | cons _ _ => simp
      · rw [maxI_spec em hi hg]; exact k1 _ rD_i
theorem kMinL {K : PySem.W.Frag} : BiOk .minL (fun xs H Q => ∃ (a : Addr) (ns : List Int), xs = [V.ref a] ∧ SqL K H a (ns.map V.int) ∧ 0 < ns.length ∧ ∀ m, m ∈ ns → (∀ y, y ∈ ns → m ≤ y) → Q (.int m) H) := by
  intro W l z S H vs us Q R rs h
  obtain ⟨v, u, rfl, rfl, r, h⟩ := on1_ok (α := Unit) rs h
  obtain ⟨w, e, k1⟩ := Post.ofO R h
  cases ei : intsV S v with
  | none => rw [ei] at e; cases e
  | some ns =>
    rw [ei] at e
    simp only [Option.bind_some] at e
    cases em : minI ns with
    | none => rw [em] at e; cases e
    | some m =>
      rw [em] at e; cases e
      obtain ⟨a, rfl, dd⟩ := intsV_rel R ei r
      refine ⟨a, ns, rfl, .inl dd, ?_, fun i hi hg => ?_⟩
      · cases ns with
        | nil => cases em
        | cons _ _ => simp
      · rw [minI_spec em hi hg]; exact k1 _ rD_i
theorem kListOf {K : PySem.W.Frag} (m : Bool) : BiOk (.listOf m) (fun xs H Q => ∃ p ys, xs = [.ref p] ∧ (SqL K H p ys ∨ SqT K H p ys) ∧ ∀ l, H l = none → Q (.ref l) (upd H l (.lst ys))) := by
  intro W l z S H vs us Q R rs h
  obtain ⟨v, u, rfl, rfl, r, h⟩ := on1_ok (α := Unit) rs h
  cases ex : seqV S v with
  | none => rw [ex] at h; exact h.elim
  | some xs =>
    rw [ex] at h
    obtain ⟨a, ys, rfl, rr, dd⟩ := seqV_rel R ex r
    refine ⟨a, ys, rfl, dd.elim (fun q => .inl (.inl q)) (fun q => .inr (.inl q.1)), fun q hq => ?_⟩
    obtain ⟨w, z', S', k1, r1⟩ := new_list R hq rr h
    exact k1 _ r1
theorem kTupOf {K : PySem.W.Frag} : BiOk .tupOf (fun xs H Q => ∃ p ys, xs = [.ref p] ∧ ((SqL K H p ys ∧ ∀ l, H l = none → Q (.ref l) (upd H l (.tup ys))) ∨ (SqT K H p ys ∧ Q (.ref p) H))) := by
  intro W l z S H vs us Q R rs h
  obtain ⟨v, u, rfl, rfl, r, h⟩ := on1_ok (α := Unit) rs h
  cases ex : seqV S v with
  | none => rw [ex] at h; exact h.elim
  | some xs =>
    rw [ex] at h
    obtain ⟨a, ys, rfl, rr, dd⟩ := seqV_rel R ex r
    refine ⟨a, ys, rfl, ?_⟩
    rcases dd with q | ⟨q, r'⟩
    · refine .inl ⟨.inl q, fun q hq => ?_⟩
      obtain ⟨t, R', d⟩ := rel_newT R hq rr
      exact h _ _ t R' _ d
    · exact .inr ⟨.inl q, Post.ok R h _ r'⟩
end
end Ev
end
section
set_option maxRecDepth 100000
set_option maxHeartbeats 4000000
/-! EvR6: isinstance, list(range(n)), repr, methods of lists. -/
namespace Ev
open PySem PySem.Spec PyProof.Rows L2
section
variable {X : Cx} {W : WS} {C : Calls} {a b c d e o : Expr} {es rest : List Expr} {ma mb mc md mo : ME} {ms : List ME} {pos : Pos}
def tyP : PyData → String
  | .none => "NoneType"
  | .bool _ => "bool"
  | .int _ => "int"
  | .str _ => "str"
  | .list _ => "list"
  | .tuple _ => "tuple"
  | .dict _ => "dict"
theorem ty_rel {K : PySem.W.Frag} {z : Z} {S : Sto} {H : Hp} {v : DV} {u : V} {p : PyData} (R : Rep z S H) (ex : asP S v = some p) (r : RelD z S H v u) : TyX K H u (.type (tyP p)) := by
  cases p with
  | none => have e := rel_none R ex r; subst e; exact .base .non
  | bool b => have e := rel_bool R ex r; subst e; exact .base (.bl b)
  | int b => have e := rel_int R ex r; subst e; exact .base (.int b)
  | str b =>
    have e : u = .str b := by rcases asP_rel R ex r with q | q <;> (unfold RelP at q; exact q)
    subst e; exact .base (.str b)
  | list xs =>
    obtain ⟨a, ys, e, d, _⟩ := rel_list R ex r
    subst e
    rcases d with d | ⟨o, d⟩
    · exact .base (.lst d)
    · exact .base (.frz d)
  | tuple xs =>
    obtain ⟨a, ys, e, d, _⟩ := rel_tup ex r
    subst e
    rcases d with d | ⟨o, d⟩
    · exact .base (.tup d)
    · exact .fTuple d
  | dict _ => rcases asP_rel R ex r with q | q <;> (unfold RelP at q; exact q.elim)
/-- isinstance(e, T) -/
theorem e_isi {x T : Str} {t : String} {p pT : Pos} (ht : ∀ q : PyData, ∃ k, isiP t q = some k ∧ kitB (tyP q) t = some k) (hm : X.mg x = none) (hv : bootBuiltins x = some (.builtin "isinstance")) (hmT : X.mg T = none) (hvT : bootBuiltins T = some (.type t))
    (ha : PE X a (rdE C W ma)) (hg : Gl X x := by rfl) (hgT : Gl X T := by rfl) (hn : x ≠ "__name__" := by decide) (hdb : (x == ("__debug__" : Str)) = false := by decide) (hnT : T ≠ "__name__" := by decide) (hdT : (T == ("__debug__" : Str)) = false := by decide)
    (he : starEach [a, .Name T pT] X.env = (false, eval a X.env) :: starEach [.Name T pT] X.env := by rfl) (he2 : starEach [.Name T pT] X.env = (false, eval (.Name T pT) X.env) :: starEach [] X.env := by rfl)
    (hpl : (backTo pos (starEach [.Name T pT] X.env)).any (·.1) = false := by rfl) : PE X (.Call (.Name x p) [a, .Name T pT] [] pos) (rdE C W (.bi (.isi t) [ma])) :=
  PE.imp (pe_callB call_isi hg hm hv (pa_cons ha (pa_cons (pe_bltn (v := .ty t) hgT hmT hvT rfl hnT hdT) pa_nil he2) he) hn hdb he hpl) fun σ H Q ⟨z, l, S, hl, R, h⟩ => by
    unfold evalE at h
    unfold evalEs at h
    refine seqE (f := fun v S1 => ((evalEs C [] l S1).bind fun vs S2 => Res.ok (v :: vs) S2).bind fun vs S1 => biP (.isi t) vs S1) hl R (k := fun v z' S' H' => ∀ u, RelD z' S' H' v u → Q u H') ?_ fun u H1 z1 S1 v a1 rv => ?_
    · revert h; cases evalE C ma l S <;> exact id
    have h1 := a1.h
    unfold evalEs at h1
    obtain ⟨w, e, k1⟩ := Post.ofO a1.R (show Post W l z1 S1 H1 (ofO ((asP S1 v).bind fun p => (isiP t p).map fun b => DV.d (.bool b)) S1) _ from h1)
    cases ex : asP S1 v with
    | none => rw [ex] at e; cases e
    | some q =>
      rw [ex] at e
      obtain ⟨k, e1, e2⟩ := ht q
      simp only [Option.bind_some, e1, Option.map_some, Option.some.injEq] at e
      subst e
      exact ⟨u, .ty t, .type (tyP q), .type t, k, rfl, .ty t, ty_rel a1.R ex rv, kit_ty e2, k1 _ rD_b⟩
theorem isi_int : ∀ q : PyData, ∃ k, isiP "int" q = some k ∧ kitB (tyP q) "int" = some k := by
  intro q; cases q <;> exact ⟨_, rfl, by dsimp only [tyP]; decide +kernel⟩
theorem isi_bool : ∀ q : PyData, ∃ k, isiP "bool" q = some k ∧ kitB (tyP q) "bool" = some k := by
  intro q; cases q <;> exact ⟨_, rfl, by dsimp only [tyP]; decide +kernel⟩
theorem isi_tuple : ∀ q : PyData, ∃ k, isiP "tuple" q = some k ∧ kitB (tyP q) "tuple" = some k := by
  intro q; cases q <;> exact ⟨_, rfl, by dsimp only [tyP]; decide +kernel⟩
/-! ### list(range(n)) -/
theorem rg_rel {H : Hp} {L : Addr → Prop} (lo hi : Int) : RelPs H L (rangeP lo hi) (rgV lo hi) := by
  unfold rangeP rgV
  generalize (hi - lo).toNat = n
  induction List.range n with
  | nil => exact RelPs.nil
  | cons k r ih => exact RelPs.cons (by unfold RelP; rfl) ih
theorem e_rangeList (m : Bool) {p1 p2 q : Pos} (hc : X.calm = true) (hmL : X.mg "list" = none) (hmR : X.mg "range" = none) (ha : PE X a (rdE C W ma)) (hgL : Gl X "list" := by rfl) (hgR : Gl X "range" := by rfl) (na : starEach [a] X.env = (false, eval a X.env) :: starEach [] X.env := by rfl)
    (nb : starEach [.Call (.Name "range" p2) [a] [] q] X.env = (false, eval (.Call (.Name "range" p2) [a] [] q) X.env) :: starEach [] X.env := by rfl) : PE X (.Call (.Name "list" p1) [.Call (.Name "range" p2) [a] [] q] [] pos) (rdE C W (.bi (.rangeList m) [ma])) :=
  PE.imp (pe_listRg hc hgL hmL (prg_1 hgR hmR ha na) nb) fun σ H Q ⟨z, l, S, hl, R, h⟩ => by
    unfold evalE at h
    unfold evalEs at h
    refine seqE (f := fun v S1 => ((evalEs C [] l S1).bind fun vs S2 => Res.ok (v :: vs) S2).bind fun vs S1 => biP (.rangeList m) vs S1) hl R (k := fun v z' S' H' => ∀ u, RelD z' S' H' v u → Q u H') ?_ fun u H1 z1 S1 v a1 rv => ?_
    · revert h; cases evalE C ma l S <;> exact id
    have h1 := a1.h
    unfold evalEs at h1
    have h1 : Post W l z1 S1 H1 (bRange m S1 v) _ := h1
    unfold bRange at h1
    split at h1
    · rename_i i ex
      have e := rel_int a1.R ex rv
      subst e
      by_cases c : i ≤ (LIM : Int) ∧ -(2 ^ 62) ≤ i
      · rw [if_pos c] at h1
        have : (LIM : Int) = 1000000 := rfl
        refine ⟨i, rfl, ⟨by omega, by omega, by omega, by omega, by omega⟩, fun q hq => ?_⟩
        obtain ⟨w, z', S', k1, r1⟩ := new_list a1.R hq (rg_rel 0 i) h1
        exact k1 _ r1
      · rw [if_neg c] at h1; exact h1.elim
    · exact h1.elim
/-! ### repr -/
theorem call_reprD (hg : X.A.guards = some []) (hu : X.A.units + 66 < cLine) : CallR X (.builtin "repr") (fun xs H Q => ∃ x d, xs = [x] ∧ Dp X.K H x d ∧ d.showable = true ∧ d.hasDict = false ∧ d.depth ≤ 64 ∧ d.shown.length ≤ sizeLine ∧ Q (.str d.shown) H) := by
  intro pins s σ H xs us Q I r h
  obtain ⟨x, d, rfl, hd, h1, h2, h3, h4, q⟩ := h
  cases r with
  | cons rx rt =>
    cases rt
    cases hd with
    | non =>
      cases rx
      exact PySem.P.repr_of_none ⟨.str _, H, I.tok _, ⟨_, rfl⟩, q⟩
    | bl b =>
      cases rx
      exact PySem.P.repr_of_bool ⟨.str _, H, I.tok _, ⟨_, rfl⟩, q⟩
    | int i =>
      obtain ⟨t, rfl⟩ := rx
      exact PySem.P.repr_of_int (by unfold PyData.showable at h1; exact of_decide_eq_true h1) ⟨.str _, H, I.tok _, ⟨_, rfl⟩, q⟩
    | str i =>
      obtain ⟨t, rfl⟩ := rx
      exact PySem.P.repr_of_str ⟨.str _, H, I.tok _, ⟨_, rfl⟩, q⟩ h4
    | lst hs ha =>
      rename_i ad ys ds
      cases rx
      obtain ⟨as, r1⟩ := Dp.reads I _ _ _ (Dp.lst hs ha) (show RelV (.ref ad) (.ref ad) from rfl)
      exact repr_of_reads' r1 h1 (fun e => by rw [h2] at e; cases e) hg (by omega) (fun _ _ e => e) (fun h' u tk k => ⟨.str _, H, I.kept k, ⟨_, rfl⟩, q⟩) h4
    | tup hs ha =>
      rename_i ad ys ds
      cases rx
      obtain ⟨as, r1⟩ := Dp.reads I _ _ _ (Dp.tup hs ha) (show RelV (.ref ad) (.ref ad) from rfl)
      exact repr_of_reads' r1 h1 (fun e => by rw [h2] at e; cases e) hg (by omega) (fun _ _ e => e) (fun h' u tk k => ⟨.str _, H, I.kept k, ⟨_, rfl⟩, q⟩) h4
theorem kRepr {K : PySem.W.Frag} : BiOk .repr (fun xs H Q => ∃ x d, xs = [x] ∧ Dp K H x d ∧ d.showable = true ∧ d.hasDict = false ∧ d.depth ≤ 64 ∧ d.shown.length ≤ sizeLine ∧ Q (.str d.shown) H) := by
  intro W l z S H vs us Q R rs h
  obtain ⟨v, u, rfl, rfl, r, h⟩ := on1_ok (α := Unit) rs h
  unfold bRepr at h
  split at h
  · rename_i x ex
    by_cases c : x.showable = true ∧ x.hasDict = false ∧ x.depth ≤ 64 ∧ x.shown.length ≤ sizeLine
    · rw [if_pos c] at h
      exact ⟨u, x, rfl, dp_as R ex r, c.1, c.2.1, c.2.2.1, c.2.2.2, Post.ok R h _ rD_s⟩
    · rw [if_neg c] at h; exact h.elim
  · exact h.elim
/-! ### methods -/
/-- a mutable list gets other items -/
theorem rep_set {z : Z} {S : Sto} {H : Hp} {i : Nat} {o : OB} {ho ho' : HO} (R : Rep z S H) (hi : i < S.length) (hr : Tr z S H z (S.set i o) (upd H (z.ρ i) ho) → RelO z (S.set i o) (upd H (z.ρ i) ho) (z.ρ i) o) :
    Tr z S H z (S.set i o) (upd H (z.ρ i) ho) ∧ Rep z (S.set i o) (upd H (z.ρ i) ho) := by
  have t : Tr z S H z (S.set i o) (upd H (z.ρ i) ho) := by
    refine ⟨Grow.refl _ _, by simp, fun _ _ => rfl, fun a u h n => ?_, fun j h1 h2 => ?_⟩
    · rw [upd_ne (fun e => n ⟨i, hi, e.symm⟩)]; exact h
    · simp at h2; omega
  refine ⟨t, fun j k hj hk e => R.inj j k (by simpa using hj) (by simpa using hk) e, fun j hj => R.nrz j (by simpa using hj), fun a ha => ?_, fun j o' h => ?_⟩
  · by_cases e : a = z.ρ i
    · rw [e, upd_same]; exact fun q => nomatch q
    · rw [upd_ne e]; exact R.trk a ha
  · by_cases e : j = i
    · subst e
      rw [List.getElem?_set_self hi] at h
      cases h
      exact hr t
    · rw [List.getElem?_set_ne (fun q => e q.symm)] at h
      have hj : j < S.length := (List.getElem?_eq_some_iff.mp h).1
      have ne : z.ρ j ≠ z.ρ i := fun q => e (R.inj j i hj hi q)
      have q := R.at_ j o' h
      cases o' with
      | lst xs => obtain ⟨ys, q1, q2⟩ := q; exact ⟨ys, by rw [upd_ne ne]; exact q1, q2.tr t⟩
      | box xs => obtain ⟨ys, q1, q2⟩ := q; exact ⟨ys, by rw [upd_ne ne]; exact q1, q2.tr t⟩
      | dT xs => obtain ⟨ys, q1, q2⟩ := q; exact ⟨ys, by rw [upd_ne ne]; exact q1, q2.tr t⟩
      | dK xs => obtain ⟨ys, q1, q2⟩ := q; exact ⟨ys, by rw [upd_ne ne]; exact q1, q2.tr t⟩
theorem lstAt_get {S : Sto} {i : Nat} {xs : List PyData} (h : lstAt S i = some xs) : S[i]? = some (.lst xs) := by
  unfold lstAt at h
  split at h
  · rename_i q; rw [q, Option.some.inj h]
  · cases h
/-- what a method's rule must give -/
def MmOk (b : MM) (r : V → List V → Hp → VK → Prop) : Prop := ∀ (K : PySem.W.Frag) (W : WS) (l : Loc) (z : Z) (S : Sto) (H : Hp) (o : DV) (x : V) (vs : List DV) (us : List V) (Q : VK), Rep z S H → RelD z S H o x → RelDs z S H vs us →
  Post W l z S H (methP b o vs S) (fun v z' S' H' => ∀ u, RelD z' S' H' v u → Q u H') → r x us H Q
/-- where a mutable list stands -/
theorem at_lst {z : Z} {S : Sto} {H : Hp} {o : DV} {x : V} {vs : List DV} {W : WS} {l : Loc} {k : DV → Z → Sto → Hp → Prop} {f : Nat → List PyData → Res DV} {b : MM} (R : Rep z S H) (ro : RelD z S H o x)
    (hb : ∀ i, methP b (.ref i) vs S = match lstAt S i with | some xs => f i xs | none => .stuck) (h : Post W l z S H (methP b o vs S) k) :
    ∃ i xs ys, o = .ref i ∧ i < S.length ∧ x = .ref (z.ρ i) ∧ S[i]? = some (.lst xs) ∧ H (z.ρ i) = some (.lst ys) ∧ RelPs H (Live z S) xs ys ∧ Post W l z S H (f i xs) k := by
  cases o with
  | d _ => exact h.elim
  | ref i =>
    rw [hb] at h
    cases q : lstAt S i with
    | none => rw [q] at h; exact h.elim
    | some xs =>
      rw [q] at h
      have g := lstAt_get q
      obtain ⟨ys, h1, h2⟩ := R.at_ i _ g
      exact ⟨i, xs, ys, rfl, ro.1, ro.2, g, h1, h2, h⟩
theorem kAppend : MmOk .append (fun x vs H Q => ∃ l xs y, x = .ref l ∧ vs = [y] ∧ H l = some (.lst xs) ∧ xs.length < sizeLine ∧ Q .non (upd H l (.lst (xs ++ [y])))) := by
  intro K W l z S H o x vs us Q R ro rs h
  obtain ⟨i, xs, ys, rfl, hi, rfl, g, h1, h2, h3⟩ := at_lst (f := fun i xs => mAppend S i xs vs) (b := .append) R ro (fun _ => rfl) h
  clear h
  unfold mAppend at h3
  split at h3
  · rename_i p
    obtain ⟨u, rfl, r⟩ := one_of rs
    by_cases c : xs.length < LIM
    · rw [if_pos c] at h3
      refine ⟨_, ys, u, rfl, rfl, h1, by rw [← h2.length]; exact lim_lt c, ?_⟩
      obtain ⟨t, R'⟩ := rep_set (o := .lst (xs ++ [p])) (ho := .lst (ys ++ [u])) (ho' := .lst []) R hi fun t => ⟨_, upd_same, (h2.append (RelPs.one r)).tr t⟩
      exact h3 _ _ t R' _ rD_n
    · rw [if_neg c] at h3; exact h3.elim
  · exact h3.elim
theorem RelPs.dropLast {H : Hp} {L : Addr → Prop} : ∀ {xs : List PyData} {ys : List V}, RelPs H L xs ys → RelPs H L xs.dropLast ys.dropLast := fun {xs ys} h => by
  rw [List.dropLast_eq_take, List.dropLast_eq_take, ← h.length]
  exact h.take _
theorem kPop : MmOk .pop (fun x vs H Q => ∃ l xs y, x = .ref l ∧ vs = [] ∧ H l = some (.lst xs) ∧ xs[xs.length - 1]? = some y ∧ Q y (upd H l (.lst xs.dropLast))) := by
  intro K W l z S H o x vs us Q R ro rs h
  obtain ⟨i, xs, ys, rfl, hi, rfl, g, h1, h2, h3⟩ := at_lst (f := fun i xs => mPop S i xs vs) (b := .pop) R ro (fun _ => rfl) h
  clear h
  unfold mPop at h3
  split at h3
  · split at h3
    · rename_i p ep
      unfold RelDs at rs
      obtain ⟨y, e1, r1⟩ := h2.get ep
      refine ⟨_, ys, y, rfl, rs, h1, by rw [← h2.length]; exact e1, ?_⟩
      obtain ⟨t, R'⟩ := rep_set (o := .lst xs.dropLast) (ho := .lst ys.dropLast) (ho' := .lst []) R hi fun t => ⟨_, upd_same, h2.dropLast.tr t⟩
      exact h3 _ _ t R' _ (RelP.tr t r1)
    · exact h3.elim
  · exact h3.elim
theorem kPopAt : MmOk .popAt (fun x vs H Q => ∃ l xs i k y, x = .ref l ∧ vs = [.int i] ∧ H l = some (.lst xs) ∧ -(2 ^ 63) ≤ i ∧ i < 2 ^ 63 ∧ seqIndex? i xs.length = some k ∧ xs[k]? = some y ∧ Q y (upd H l (.lst (xs.eraseIdx k)))) := by
  intro K W l z S H o x vs us Q R ro rs h
  obtain ⟨i, xs, ys, rfl, hi, rfl, g, h1, h2, h3⟩ := at_lst (f := fun i xs => mPopAt S i xs vs) (b := .popAt) R ro (fun _ => rfl) h
  clear h
  unfold mPopAt at h3
  split at h3
  · rename_i k
    split at h3
    · rename_i p ep
      obtain ⟨u, rfl, r⟩ := one_of rs
      have e := rel_int R rfl r
      subst e
      by_cases c : 0 ≤ k ∧ k < 2 ^ 63
      · rw [if_pos c] at h3
        obtain ⟨y, e1, r1⟩ := h2.get ep
        have hk : k.toNat < xs.length := (List.getElem?_eq_some_iff.mp ep).1
        refine ⟨_, ys, k, k.toNat, y, rfl, rfl, h1, by omega, c.2, ?_, e1, ?_⟩
        · rw [← h2.length]
          unfold seqIndex?
          have q3 : k < (xs.length : Int) := by omega
          have q4 : ¬ k < 0 := by omega
          simp [q4, q3, c.1]
        · obtain ⟨t, R'⟩ := rep_set (o := .lst (xs.eraseIdx k.toNat)) (ho := .lst (ys.eraseIdx k.toNat)) (ho' := .lst []) R hi fun t => ⟨_, upd_same, (h2.eraseIdx _).tr t⟩
          exact h3 _ _ t R' _ (RelP.tr t r1)
      · rw [if_neg c] at h3; exact h3.elim
    · exact h3.elim
  · exact h3.elim
end
end Ev
end
section
set_option maxRecDepth 100000
set_option maxHeartbeats 4000000
/-! EvR7: own functions called. -/
namespace Ev
open PySem PySem.Spec PyProof.Rows L2
/-- a caught or flying error of the class c, which keeps x -/
def RelX (mg : Str → Option Value) (z : Z) (S : Sto) (H : Hp) (c : String) (x : PyData) (cls : Value) (d : Option Addr) : Prop :=
  ∃ (Ca dd : Addr) (v : V), cls = .ref Ca ∧ mg (Str.ofString c) = some (.ref Ca) ∧ d = some dd ∧ H dd = some (.xd [("what", v)]) ∧ RelD z S H (.d x) v
def toWX (mg : Str → Option Value) (W : WS) : WX := fun cls d σ H' => ∃ c x l z S, RelL z S H' l σ ∧ Rep z S H' ∧ RelX mg z S H' c x cls d ∧ W c x l z S H'
/-- what a function of the table promises -/
def spEv (mg : Str → Option Value) (n : Nat) (Cd : Calls) (f : String) : Sp := fun vs H Q E => vs.length = n ∧ ∃ z S args, RelDs z S H args vs ∧ Rep z S H ∧ match Cd f args S with
  | .ok v S' => ∀ z' H' u, Tr z S H z' S' H' → Rep z' S' H' → RelD z' S' H' v u → Q u H'
  | .err c x S' => ∀ z' H' cls d, Tr z S H z' S' H' → Rep z' S' H' → RelX mg z' S' H' c x cls d → E cls d H'
  | .stuck => False
structure FnOkG (P : Program) (w : World) (K : PySem.W.Frag) (mg : Str → Option Value) (base : Heap) (k : Nat) (f : Addr) (fd : FuncData) (ps : List Str) (sp : Sp) : Prop where
  len : ∀ vs H Q E, sp vs H Q E → vs.length = ps.length
  run : ∀ (A : Around) (outer : List PySem.Env) (s : Shared) (H : Hp) (args : Args) (us : List Value) (vs : List V) (Q : VK) (E : XK), Room k A → A.guards = some [] → Env0 P w K mg base A outer s H → BindsTo s fd args (ps.zip us) → Vals vs us → sp vs H Q E →
    codeAny (model P w) A (.call (.ref f) args) (CR (L2.CX P w) outer P w H s Q E) s
/-- the context of a body: what every rule may want -/
structure Good (X : Cx) (W : WS) (k : Nat) : Prop where
  nd : X.N.Nodup
  calm : X.calm = true
  room : Room k X.A
  gd : X.A.guards = some []
  tk : Takes X (toWX X.mg W)
  po : PassesOwn (model X.prog X.w) X.A X.env X.xe
section
variable {X : Cx} {W : WS} {C : Calls} {a b c d e o : Expr} {es rest : List Expr} {ma mb mc md mo : ME} {ms : List ME} {pos : Pos}
theorem e_call {k n : Nat} {f : Addr} {fd : FuncData} {ps : List Str} {key : String} {x : Str} {p : Pos} (g : Good X W k) (F : FnOkG X.prog X.w X.K X.mg X.base k f fd ps (spEv X.mg n C key)) (hm : X.mg x = some (.ref f)) (hk : PySem.W.keepIn X.K (.ref f) = true) (hb : Binds X.K fd ps [])
    (ha : PA X (e :: es) (rdA C W ms)) (hn : ms.length = n := by rfl) (hg : Gl X x := by rfl) (hdb : (x == ("__debug__" : Str)) = false := by decide) (he : starEach (e :: es) X.env = (false, eval e X.env) :: starEach es X.env := by rfl)
    (hpl : (backTo pos (starEach es X.env)).any (·.1) = false := by rfl) : PE X (.Call (.Name x p) (e :: es) [] pos) (rdE C W (.call key ms)) := by
  refine ⟨fun pins s σ H Q I h => ?_⟩
  obtain ⟨z, l, S, hl, R, h⟩ := h
  unfold evalE at h
  refine wpAny_Call_Name_kw (ld_glob I hg hm ?_ hdb)
  refine PySem.W.callWith_K (h₀ := X.base) I.ok.mod.kin hk (thn (ha.run pos pins s σ H (fun us H1 => spEv X.mg n C key us H1 Q (fun cls d H' => toWX X.mg W cls d σ H')) I (seqA' hl R h fun us H1 z1 S1 vs a1 rs hlen => ?_)) fun us s1 ⟨vs, H1, I1, r, q⟩ => ⟨I1.kIn, ?_⟩) he hpl
  · refine ⟨by rw [← RelDs.length rs, hlen, hn], z1, S1, vs, rs, a1.R, ?_⟩
    have h1 := a1.h
    revert h1
    cases C key vs S1 with
    | ok v S' => exact fun h1 z' H' u t R' r' => h1 z' H' t R' u r'
    | err cc xx S' => exact fun h1 z' H' cls dd t R' r' => ⟨cc, xx, l, z', S', a1.L.tr t, R', r', h1 z' H' t R'⟩
    | stuck => exact id
  · refine wpAny_call (codeAny_mono (F.run X.A X.stack s1 H1 ⟨us, []⟩ us vs Q _ g.room g.gd I1.env0 ?_ r q) fun rr s' hq => ?_)
    · have hl2 : (us ++ []).length = ps.length := by rw [List.append_nil, ← r.length]; exact F.len _ _ _ _ q
      have := hb s1 us I1.kIn hl2
      rwa [List.append_nil] at this
    · cases rr with
      | error e => exact g.tk _ _ (XE.of_call I1 (fun _ _ _ h => h) hq)
      | ok fl =>
        cases fl with
        | ret u => exact I1.after hq
        | next => exact False.elim hq
        | brk => exact False.elim hq
        | cont => exact False.elim hq
theorem recv_ty {K : PySem.W.Frag} {z : Z} {S : Sto} {H : Hp} {x : DV} {u : V} (R : Rep z S H) (h : recv x S = true) (r : RelD z S H x u) : tyV K "list" u H := by
  cases x with
  | d _ => cases h
  | ref i =>
    obtain ⟨hi, e⟩ := r
    subst e
    have h : (lstAt S i).isSome = true := h
    cases q : lstAt S i with
    | none => rw [q] at h; cases h
    | some xs =>
      obtain ⟨ys, h1, _⟩ := R.at_ i _ (lstAt_get q)
      exact .inl ⟨rfl, ys, .inl (.inl h1)⟩
/-- a method of a mutable list, with arguments -/
theorem e_meth {b : MM} {id : String} {name : Str} {r : V → List V → Hp → VK → Prop} {apos : Pos} (slot : Slot "list" name id) (hty : typeOf (.builtin id) = pure (.type "method_descriptor")) (hmm : MtR X id r) (hk : MmOk b r) (ho : PE X o (rdE C W mo)) (ha : PA X (e :: es) (rdA C W ms))
    (hbase : attributeBase o name X.env (eval o X.env) = eval o X.env := by rfl)
    (hfew : ((backTo pos (starEach (e :: es) X.env)).all (fun x => !x.1) && (backToKw pos (keywordEach [] X.env)).all (fun x => x.1.isSome)
      && decide ((e :: es).length + ([] : List Keyword).length + (if ([] : List Keyword).isEmpty then 0 else 1) < 30)) = true := by rfl)
    (hline : (apos.endLine == pos.line) = true := by rfl) (hs : starEach (e :: es) X.env = (false, eval e X.env) :: starEach es X.env := by rfl) (hplain : (backTo pos (starEach es X.env)).any (·.1) = false := by rfl) :
    PE X (.Call (.Attribute o name apos) (e :: es) [] pos) (rdE C W (.meth b mo ms)) :=
  PE.imp (pe_bm PySem.F.plainAttrs_list slot hty hmm ho ha hbase hfew hline hs hplain) fun σ H Q ⟨z, l, S, hl, R, h⟩ => by
    unfold evalE at h
    refine seqE hl R h fun u H1 z1 S1 x a1 rx => ?_
    have h1 := a1.h
    by_cases c : recv x S1 = true
    · rw [if_pos c] at h1
      refine ⟨recv_ty a1.R c rx, seqA a1.L a1.R h1 fun us H2 z2 S2 vs a2 rs => ?_⟩
      exact hk X.K W l z2 S2 H2 x u vs us Q a2.R (rx.tr a2.t) rs a2.h
    · rw [if_neg c] at h1; exact h1.elim
theorem e_meth0 {b : MM} {id : String} {name : Str} {r : V → List V → Hp → VK → Prop} {apos : Pos} (slot : Slot "list" name id) (hty : typeOf (.builtin id) = pure (.type "method_descriptor")) (hmm : MtR X id r) (hk : MmOk b r) (ho : PE X o (rdE C W mo))
    (hbase : attributeBase o name X.env (eval o X.env) = eval o X.env := by rfl) (hline : (apos.endLine == pos.line) = true := by rfl) :
    PE X (.Call (.Attribute o name apos) [] [] pos) (rdE C W (.meth b mo [])) :=
  PE.imp (pe_bm0 PySem.F.plainAttrs_list slot hty hmm ho hbase hline) fun σ H Q ⟨z, l, S, hl, R, h⟩ => by
    unfold evalE at h
    refine seqE hl R h fun u H1 z1 S1 x a1 rx => ?_
    have h1 := a1.h
    by_cases c : recv x S1 = true
    · rw [if_pos c] at h1
      unfold evalEs at h1
      exact ⟨recv_ty a1.R c rx, hk X.K W l z1 S1 H1 x u [] [] Q a1.R rx rfl h1⟩
    · rw [if_neg c] at h1; exact h1.elim
theorem e_append {apos : Pos} (ho : PE X o (rdE C W mo)) (ha : PA X [e] (rdA C W ms)) (hbase : attributeBase o "append" X.env (eval o X.env) = eval o X.env := by rfl)
    (hfew : ((backTo pos (starEach [e] X.env)).all (fun x => !x.1) && (backToKw pos (keywordEach [] X.env)).all (fun x => x.1.isSome)
      && decide ([e].length + ([] : List Keyword).length + (if ([] : List Keyword).isEmpty then 0 else 1) < 30)) = true := by rfl)
    (hline : (apos.endLine == pos.line) = true := by rfl) (hs : starEach [e] X.env = (false, eval e X.env) :: starEach [] X.env := by rfl) : PE X (.Call (.Attribute o "append" apos) [e] [] pos) (rdE C W (.meth .append mo ms)) :=
  e_meth PySem.F.slot_list_append PySem.F.type_list_append mt_append kAppend ho ha hbase hfew hline hs
theorem e_popAt {apos : Pos} (ho : PE X o (rdE C W mo)) (ha : PA X [e] (rdA C W ms)) (hbase : attributeBase o "pop" X.env (eval o X.env) = eval o X.env := by rfl)
    (hfew : ((backTo pos (starEach [e] X.env)).all (fun x => !x.1) && (backToKw pos (keywordEach [] X.env)).all (fun x => x.1.isSome)
      && decide ([e].length + ([] : List Keyword).length + (if ([] : List Keyword).isEmpty then 0 else 1) < 30)) = true := by rfl)
    (hline : (apos.endLine == pos.line) = true := by rfl) (hs : starEach [e] X.env = (false, eval e X.env) :: starEach [] X.env := by rfl) : PE X (.Call (.Attribute o "pop" apos) [e] [] pos) (rdE C W (.meth .popAt mo ms)) :=
  e_meth PySem.F.slot_list_pop PySem.F.type_list_pop mt_popAt kPopAt ho ha hbase hfew hline hs
theorem e_pop {apos : Pos} (ho : PE X o (rdE C W mo)) (hbase : attributeBase o "pop" X.env (eval o X.env) = eval o X.env := by rfl) (hline : (apos.endLine == pos.line) = true := by rfl) : PE X (.Call (.Attribute o "pop" apos) [] [] pos) (rdE C W (.meth .pop mo [])) :=
  e_meth0 PySem.F.slot_list_pop PySem.F.type_list_pop mt_pop kPop ho hbase hline
end
end Ev
end
section
set_option maxRecDepth 100000
set_option maxHeartbeats 4000000
/-! EvR8: what is walked; comprehensions. -/
namespace Ev
open PySem PySem.Spec PyProof.Rows L2
/-- J walks w's items, as long as the list that is walked stands -/
def WkOf (w : Items) (z : Z) (S : Sto) (H : Hp) (J : It) : Prop :=
  still w S = true ∧ ∃ (G : Hp → Prop) (Y : Nat → Hp → V → Hp → Prop), Walk J w.xs.length G Y ∧ (∀ z' S' H', Tr z S H z' S' H' → Rep z' S' H' → still w S' = true → G H') ∧
    ∀ i z' S' H' x v Hy, Tr z S H z' S' H' → Rep z' S' H' → still w S' = true → w.xs[i]? = some x → Y i H' v Hy → Tr z' S' H' z' S' Hy ∧ Rep z' S' Hy ∧ RelP Hy (Live z' S') x v
def rdI (C : Calls) (W : WS) (it : IT) : TI := fun σ H R => ∃ z l S, RelL z S H l σ ∧ Rep z S H ∧ Post W l z S H (evalI C it l S) (fun w z' S' H' => ∀ J, WkOf w z' S' H' J → R J H')
theorem PI.imp {X : Cx} {tg e : Expr} {t t' : TI} (h : PI X tg e t) (m : ∀ σ H R, t' σ H R → t σ H R) : PI X tg e t' := ⟨fun pins s σ H Q I q => h.run pins s σ H Q I (m σ H Q q)⟩
theorem walk_lst {K : PySem.W.Frag} {a : Addr} {n : Nat} : Walk (Itl K a) n (fun H => ∃ ys, H a = some (.lst ys) ∧ ys.length = n) (fun i H x H' => H' = H ∧ ∀ ys, H a = some (.lst ys) → ys[i]? = some x) :=
  ⟨fun i H hi ⟨ys, h, e⟩ => ⟨ys, ys[i], .inl (.inl h), by simp⟩, fun H ⟨ys, h, e⟩ => ⟨ys, .inl (.inl h), by omega⟩, fun i H x H' hi _ ⟨e, h⟩ => ⟨e, fun ys hy => h ys (.inl (.inl hy))⟩⟩
def iSeq (K : PySem.W.Frag) (tl : TE) : TI := fun σ H R => tl σ H fun x H1 => ∃ a, x = .ref a ∧ (((∃ xs, SqL K H1 a xs) ∧ R (Itl K a) H1) ∨ ((∃ xs, SqT K H1 a xs) ∧ R (Itt K a) H1))
theorem pi_seq {X : Cx} {tg l : Expr} {tl : TE} (hl : PE X l tl) : PI X tg l (iSeq X.K tl) := by
  refine ⟨fun pins s σ H R I h => ?_⟩
  refine thn (hl.run pins s σ H _ I h) fun v s1 ⟨x, H1, I1, r1, q1⟩ => ?_
  obtain ⟨a, e, q⟩ := q1
  subst e
  cases r1
  rcases q with ⟨⟨xs, hq⟩, q⟩ | ⟨⟨xs, hq⟩, q⟩
  · obtain ⟨its, rv, p, hz⟩ := I1.list hq
    refine wpAny_pyIter_list p.isList ?_
    refine ⟨s1.heap.objs.size, [s1.heap.objs.size], _, _, H1, rfl, I1.kept (t' := s1.toks) fun b o e => Heap.get?_push_of_some _ e, turn_list a _, ⟨_, Heap.get?_push_size _ rfl, rfl, rfl⟩, fun b hb => ?_, q⟩
    have e : b = s1.heap.objs.size := by simpa using hb
    subst e
    exact I1.fpOk (Nat.le_refl _) (I1.hok.fresh (Nat.le_refl _))
  · obtain ⟨its, rv, p, hz⟩ := I1.tuple hq
    refine wpAny_pyIter_tuple (show s1.heap.IsTuple a its.toArray from p) ?_
    refine ⟨s1.heap.objs.size, [s1.heap.objs.size], _, _, H1, rfl, I1.kept (t' := s1.toks) fun b o e => Heap.get?_push_of_some _ e, turn_tuple a _, ⟨_, Heap.get?_push_size _ rfl, rfl, rfl⟩, fun b hb => ?_, q⟩
    have e : b = s1.heap.objs.size := by simpa using hb
    subst e
    exact I1.fpOk (Nat.le_refl _) (I1.hok.fresh (Nat.le_refl _))
/-- a plain list or tuple is walked -/
theorem wk_val {K : PySem.W.Frag} {xs : List PyData} {z : Z} {S : Sto} {H : Hp} {a : Addr} {ys : List V} (nl : ¬ Live z S a) (d : Rd H a (.lst ys)) (r : RelPs H (Live z S) xs ys) : WkOf ⟨xs, none⟩ z S H (Itl K a) := by
  refine ⟨rfl, fun H' => SqL K H' a ys, YAt ys, by rw [show (Items.mk xs none).xs.length = ys.length from r.length]; exact walk_list, fun z' S' H' t R _ => ?_, fun i z' S' H' x v Hy t R _ ex ⟨e, ey⟩ => ?_⟩
  · exact .inl (rd_keep (fun o h => t.kept a o h nl) d)
  · subst e
    obtain ⟨y, e1, r1⟩ := r.get ex
    rw [e1] at ey; cases ey
    exact ⟨Tr.refl _ _ _, R, r1.tr t⟩
theorem wk_valT {K : PySem.W.Frag} {xs : List PyData} {z : Z} {S : Sto} {H : Hp} {a : Addr} {ys : List V} (nl : ¬ Live z S a) (d : Rd H a (.tup ys)) (r : RelPs H (Live z S) xs ys) : WkOf ⟨xs, none⟩ z S H (Itt K a) := by
  refine ⟨rfl, fun H' => SqT K H' a ys, YAt ys, by rw [show (Items.mk xs none).xs.length = ys.length from r.length]; exact walk_tup, fun z' S' H' t R _ => ?_, fun i z' S' H' x v Hy t R _ ex ⟨e, ey⟩ => ?_⟩
  · exact .inl (rd_keep (fun o h => t.kept a o h nl) d)
  · subst e
    obtain ⟨y, e1, r1⟩ := r.get ex
    rw [e1] at ey; cases ey
    exact ⟨Tr.refl _ _ _, R, r1.tr t⟩
theorem still_get {w : Items} {j : Nat} {S : Sto} (hs : w.src = some j) (h : still w S = true) : S[j]? = some (.lst w.xs) := by
  unfold still at h
  rw [hs] at h
  dsimp only at h
  split at h
  · rename_i ys q
    rw [q, sames_eq h]
  · cases h
theorem wk_ref {K : PySem.W.Frag} {xs : List PyData} {j : Nat} {z : Z} {S : Sto} {H : Hp} (hx : S[j]? = some (.lst xs)) (hj : j < S.length) : WkOf ⟨xs, some j⟩ z S H (Itl K (z.ρ j)) := by
  refine ⟨by unfold still; dsimp only; rw [hx]; exact sames_refl xs, _, _, walk_lst, fun z' S' H' t R st => ?_, fun i z' S' H' x v Hy t R st ex ⟨e, ey⟩ => ?_⟩
  · obtain ⟨ys, h1, h2⟩ := R.at_ j _ (still_get rfl st)
    rw [t.agr j hj] at h1
    exact ⟨ys, h1, h2.length.symm⟩
  · subst e
    obtain ⟨ys, h1, h2⟩ := R.at_ j _ (still_get rfl st)
    rw [t.agr j hj] at h1
    obtain ⟨y, e1, r1⟩ := h2.get ex
    rw [ey ys h1] at e1; cases e1
    exact ⟨Tr.refl _ _ _, R, r1⟩
section
variable {X : Cx} {W : WS} {C : Calls} {a b c d e o tg : Expr} {es rest : List Expr} {ma mb mc md mo : ME} {ms : List ME} {pos : Pos}
theorem i_seq (ha : PE X a (rdE C W ma)) : PI X tg a (rdI C W (.seq ma)) :=
  PI.imp (pi_seq ha) fun σ H Q ⟨z, l, S, hl, R, h⟩ => by
    unfold evalI at h
    refine seqE hl R h fun u H1 z1 S1 v a1 rv => ?_
    obtain ⟨w, e, k1⟩ := Post.ofO a1.R a1.h
    cases v with
    | d x =>
      have e : (seqP x).map (fun xs => Items.mk xs none) = some w := e
      cases x <;> simp only [seqP] at e <;> try (cases e; done)
      · cases e
        have rv' : RelP _ _ _ _ := rv
        unfold RelP at rv'
        obtain ⟨ad, ys, e1, nl, dd, rr⟩ := rv'
        subst e1
        exact ⟨ad, rfl, .inl ⟨⟨ys, .inl dd⟩, k1 _ (wk_val nl dd rr)⟩⟩
      · cases e
        have rv' : RelP _ _ _ _ := rv
        unfold RelP at rv'
        obtain ⟨ad, ys, e1, nl, dd, rr⟩ := rv'
        subst e1
        exact ⟨ad, rfl, .inr ⟨⟨ys, .inl (.inl dd)⟩, k1 _ (wk_valT nl (.inl dd) rr)⟩⟩
    | ref j =>
      have e : (lstAt S1 j).map (fun xs => Items.mk xs (some j)) = some w := e
      cases q : lstAt S1 j with
      | none => rw [q] at e; cases e
      | some xs =>
        rw [q] at e; cases e
        obtain ⟨hj, e1⟩ := rv
        subst e1
        obtain ⟨ys, h1, h2⟩ := a1.R.at_ j _ (lstAt_get q)
        exact ⟨_, rfl, .inl ⟨⟨ys, .inl (.inl h1)⟩, k1 _ (wk_ref (lstAt_get q) hj)⟩⟩
theorem range_get {lo hi : Int} {i : Nat} {x : PyData} (h : (rangeP lo hi)[i]? = some x) : x = .int (lo + i) := by
  unfold rangeP at h
  rw [List.getElem?_map] at h
  cases q : (List.range (hi - lo).toNat)[i]? with
  | none => rw [q] at h; cases h
  | some k =>
    rw [q] at h
    obtain ⟨h1, h2⟩ := List.getElem?_eq_some_iff.mp q
    rw [List.getElem_range] at h2
    cases h; rw [← h2]
theorem rangeP_length (lo hi : Int) : (rangeP lo hi).length = (hi - lo).toNat := by unfold rangeP; rw [List.length_map, List.length_range]
theorem wk_range {lo hi : Int} {z : Z} {S : Sto} {H : Hp} {n : Nat} (hn : n = (hi - lo).toNat) : WkOf ⟨rangeP lo hi, none⟩ z S H (Itr lo n) := by
  refine ⟨rfl, fun _ => True, YFn fun i => .int (lo + i), by rw [show (Items.mk (rangeP lo hi) none).xs.length = n by rw [hn]; exact rangeP_length lo hi]; exact walk_range, fun _ _ _ _ _ _ => trivial, fun i z' S' H' x v Hy t R _ ex ⟨e, ey⟩ => ?_⟩
  subst e ey
  rw [range_get ex]
  exact ⟨Tr.refl _ _ _, R, rel_i _ _⟩
theorem i_range1 {p q : Pos} (hm : X.mg "range" = none) (ha : PE X a (rdE C W ma)) (hg : Gl X "range" := by rfl) (hs : starEach [a] X.env = (false, eval a X.env) :: starEach [] X.env := by rfl) (hs2 : starEach [a] X.env = [(false, eval a X.env)] := by rfl) : PI X tg (.Call (.Name "range" p) [a] [] q) (rdI C W (.range1 ma)) :=
  PI.imp (pi_range1 hg hm (pa_cons ha pa_nil hs) hs2) fun σ H Q ⟨z, l, S, hl, R, h⟩ => by
    unfold evalI at h
    refine seqE hl R h fun u H1 z1 S1 v a1 rv => ?_
    have h1 := a1.h
    cases v with
    | ref _ => exact h1.elim
    | d x =>
      cases x with
      | int i =>
        dsimp only at h1
        by_cases c : -(2 ^ 62) ≤ i ∧ i < (LIM : Int)
        · rw [if_pos c] at h1
          have e := rel_int a1.R rfl rv
          subst e
          have : (LIM : Int) = 1000000 := rfl
          exact ⟨i, rfl, c.1, by omega, Post.ok a1.R h1 _ (wk_range (by simp))⟩
        · rw [if_neg c] at h1; exact h1.elim
      | _ => exact h1.elim
theorem i_range2 {p q : Pos} (hm : X.mg "range" = none) (ha : PE X a (rdE C W ma)) (hb : PE X b (rdE C W mb)) (hg : Gl X "range" := by rfl) (hs : starEach [a, b] X.env = (false, eval a X.env) :: starEach [b] X.env := by rfl) (hs2 : starEach [b] X.env = (false, eval b X.env) :: starEach [] X.env := by rfl)
    (hs3 : starEach [a, b] X.env = [(false, eval a X.env), (false, eval b X.env)] := by rfl) (hs4 : starEach [b] X.env = [(false, eval b X.env)] := by rfl) : PI X tg (.Call (.Name "range" p) [a, b] [] q) (rdI C W (.range2 ma mb)) :=
  PI.imp (pi_range2 hg hm (pa_cons ha (pa_cons hb pa_nil hs2) hs) hs3 hs4) fun σ H Q ⟨z, l, S, hl, R, h⟩ => by
    unfold evalI at h
    refine seqE hl R h fun u H1 z1 S1 v a1 rv => ?_
    refine seqE a1.L a1.R a1.h fun u2 H2 z2 S2 v2 a2 rv2 => ?_
    have h2 := a2.h
    have rv' := rv.tr a2.t
    split at h2
    · rename_i i j
      by_cases c : (-(2 ^ 62) ≤ i ∧ i < 2 ^ 62) ∧ (-(2 ^ 62) ≤ j ∧ j < 2 ^ 62) ∧ j - i < (LIM : Int)
      · rw [if_pos c] at h2
        have e1 := rel_int a2.R rfl rv'
        have e2 := rel_int a2.R rfl rv2
        subst e1 e2
        exact ⟨i, j, rfl, ⟨c.1.1, c.1.2, c.2.1.1, c.2.1.2⟩, Post.ok a2.R h2 _ (wk_range rfl)⟩
      · rw [if_neg c] at h2; exact h2.elim
    · exact h2.elim
theorem enumF_get : ∀ (xs : List PyData) (n i : Nat) (x : PyData), (enumF n xs)[i]? = some x → ∃ y, xs[i]? = some y ∧ x = .tuple [.int ((n + i : Nat) : Int), y]
  | [], n, i, x, h => by simp [enumF] at h
  | a :: xs, n, 0, x, h => by simp [enumF] at h; exact ⟨a, rfl, by rw [← h]; rfl⟩
  | a :: xs, n, i + 1, x, h => by
    obtain ⟨y, h1, h2⟩ := enumF_get xs (n + 1) i x (by simpa [enumF] using h)
    exact ⟨y, by simpa using h1, by rw [h2]; congr 3; omega⟩
theorem enumF_length : ∀ (xs : List PyData) (n : Nat), (enumF n xs).length = xs.length
  | [], _ => rfl
  | x :: xs, n => by simp [enumF, enumF_length xs]
/-- new pairs of a place and an item -/
theorem pair_rel {z : Z} {S : Sto} {H : Hp} {T : Addr} {k : Int} {x : PyData} {y : V} (R : Rep z S H) (hT : H T = none) (r : RelP H (Live z S) x y) :
    Tr z S H z S (upd H T (.tup [.int k, y])) ∧ Rep z S (upd H T (.tup [.int k, y])) ∧ RelP (upd H T (.tup [.int k, y])) (Live z S) (.tuple [.int k, x]) (.ref T) :=
  rel_newT R hT (RelPs.cons (rel_i _ _) (RelPs.one r))
theorem wk_enum {K : PySem.W.Frag} {xs : List PyData} {z : Z} {S : Sto} {H : Hp} {a : Addr} {ys : List V} (nl : ¬ Live z S a) (d : Rd H a (.lst ys)) (r : RelPs H (Live z S) xs ys) : WkOf ⟨enumF 0 xs, none⟩ z S H (Ite K a) := by
  refine ⟨rfl, fun H' => SqL K H' a ys, YPair (fun i => some (.int (i : Nat))) (fun i => ys[i]?), by rw [show (Items.mk (enumF 0 xs) none).xs.length = ys.length by rw [← r.length]; exact enumF_length xs 0]; exact walk_enum, fun z' S' H' t R _ => ?_, fun i z' S' H' x v Hy t R _ ex ⟨T, x1, y1, e1, hT, e2, f1, f2⟩ => ?_⟩
  · exact .inl (rd_keep (fun o h => t.kept a o h nl) d)
  · subst e1 e2
    cases f1
    obtain ⟨q, g1, g2⟩ := enumF_get xs 0 i x ex
    subst g2
    obtain ⟨y, e3, r1⟩ := r.get g1
    dsimp only at f2
    rw [e3] at f2; cases f2
    simp only [Nat.zero_add]
    exact pair_rel R hT (r1.tr t)
end

/-! ### targets -/
/-- what a target's reading must give -/
def GOk (g : L2.TG) (t : TG) : Prop := ∀ (z : Z) (S : Sto) (H : Hp) (l l2 : Loc) (σ : L2.St) (x : PyData) (v : V) (Q : L2.St → Hp → Prop), RelL z S H l σ → RelP H (Live z S) x v → bindT t x l = some l2 →
  (∀ σ2, RelL z S H l2 σ2 → (∀ vs : List Nat, (match t with | .name i => i ∈ vs | .tup is => ∀ i ∈ is, i ∈ vs) → wipe σ2 vs = wipe σ vs) → Q σ2 H) → g v σ H Q
theorem getV_set {l : Loc} {i j : Nat} {v w : DV} (h : getV (l.set i (some v)) j = some w) : (j = i ∧ w = v) ∨ (j ≠ i ∧ getV l j = some w) := by
  unfold getV at h ⊢
  by_cases e : i = j
  · subst e
    by_cases hi : i < l.length
    · rw [List.getElem?_set_self hi] at h; cases h; exact .inl ⟨rfl, rfl⟩
    · rw [List.getElem?_eq_none (by simpa using hi)] at h; cases h
  · rw [List.getElem?_set_ne e] at h; exact .inr ⟨fun q => e q.symm, h⟩
theorem RelL.set {z : Z} {S : Sto} {H : Hp} {l : Loc} {σ : L2.St} {i : Nat} {x : DV} {v : V} (h : RelL z S H l σ) (r : RelD z S H x v) : RelL z S H (l.set i (some x)) (σ.set i (some v)) := by
  refine ⟨by simp [h.len], fun j w e => ?_⟩
  have hj : j < l.length := by
    unfold getV at e
    cases q : (l.set i (some x))[j]? with
    | none => rw [q] at e; cases e
    | some _ => have := (List.getElem?_eq_some_iff.mp q).1; simpa using this
  rcases getV_set e with ⟨e1, e2⟩ | ⟨e1, e2⟩
  · subst e1 e2
    exact ⟨v, by rw [List.getElem?_set_self (by rw [← h.len]; exact hj)], r⟩
  · obtain ⟨u, h1, h2⟩ := h.at_ j w e2
    exact ⟨u, by rw [List.getElem?_set_ne (fun q => e1 q.symm)]; exact h1, h2⟩
theorem wipe_at (σ : L2.St) : ∀ (vs : List Nat) (j : Nat), (wipe σ vs)[j]? = if j ∈ vs ∧ j < σ.length then some none else σ[j]?
  | [], j => by simp [wipe]
  | v :: vs, j => by
    unfold wipe
    by_cases e : v = j
    · subst e
      by_cases hv : v < σ.length
      · rw [List.getElem?_set_self (by rw [wipe_length]; exact hv)]; simp [hv]
      · rw [List.getElem?_eq_none (by rw [List.length_set, wipe_length]; omega)]
        simp [hv]
    · rw [List.getElem?_set_ne e, wipe_at σ vs j]
      have : (j ∈ v :: vs) ↔ (j ∈ vs) := by
        rw [List.mem_cons]
        exact ⟨fun h => h.elim (fun q => absurd q.symm e) id, .inr⟩
      simp only [this]
theorem wipe_ext {σ σ' : L2.St} {vs : List Nat} (hl : σ.length = σ'.length) (h : ∀ j, j ∉ vs → σ[j]? = σ'[j]?) : wipe σ vs = wipe σ' vs := by
  apply List.ext_getElem?
  intro j
  rw [wipe_at, wipe_at, hl]
  by_cases q : j ∈ vs ∧ j < σ'.length
  · rw [if_pos q, if_pos q]
  · rw [if_neg q, if_neg q]
    by_cases h1 : j ∈ vs
    · have h2 : ¬ j < σ'.length := fun h2 => q ⟨h1, h2⟩
      rw [List.getElem?_eq_none (by omega), List.getElem?_eq_none (by omega)]
    · exact h j h1
theorem wipe_set {σ : L2.St} {i : Nat} {v : Option V} {vs : List Nat} (h : i ∈ vs) : wipe (σ.set i v) vs = wipe σ vs :=
  wipe_ext (by simp) fun j hj => List.getElem?_set_ne (fun e => hj (by rw [← e]; exact h))
theorem g_name (i : Nat) : GOk (gName i) (.name i) := by
  intro z S H l l2 σ x v Q hl r e k
  cases e
  exact k _ (hl.set (x := .d x) r) fun vs h => wipe_set h
/-- the items of a tuple to places, one by one -/
def gsOf : List Nat → L2.TGs
  | [] => gNil
  | i :: is => gCons (gName i) (gsOf is)
theorem gs_ok : ∀ (is : List Nat) (z : Z) (S : Sto) (H : Hp) (l l2 : Loc) (σ : L2.St) (xs : List PyData) (vs : List V) (Q : L2.St → Hp → Prop), RelL z S H l σ → RelPs H (Live z S) xs vs → setAll l is xs = some l2 →
    (∀ σ2, RelL z S H l2 σ2 → (∀ ws : List Nat, (∀ i ∈ is, i ∈ ws) → wipe σ2 ws = wipe σ ws) → Q σ2 H) → gsOf is vs σ H Q
  | [], z, S, H, l, l2, σ, xs, vs, Q, hl, r, e, k => by
    cases xs with
    | cons _ _ => cases e
    | nil =>
      cases e
      unfold RelPs at r
      exact ⟨r, k σ hl fun _ _ => rfl⟩
  | i :: is, z, S, H, l, l2, σ, xs, vs, Q, hl, r, e, k => by
    cases xs with
    | nil => cases e
    | cons x xs =>
      unfold RelPs at r
      obtain ⟨y, t, rfl, r1, r2⟩ := r
      refine ⟨y, t, rfl, ?_⟩
      refine gs_ok is z S H (l.set i (some (.d x))) l2 (σ.set i (some y)) xs t Q (hl.set (x := .d x) r1) r2 e fun σ2 h2 hw => ?_
      refine k σ2 h2 fun ws h => ?_
      rw [hw ws fun j hj => h j (List.mem_cons_of_mem _ hj), wipe_set (h i List.mem_cons_self)]
theorem setAll_len : ∀ {is : List Nat} {l l2 : Loc} {xs : List PyData}, setAll l is xs = some l2 → xs.length = is.length
  | [], l, l2, xs, e => by cases xs <;> first | rfl | cases e
  | i :: is, l, l2, xs, e => by
    cases xs with
    | nil => cases e
    | cons x xs => rw [List.length_cons, List.length_cons, setAll_len (l := l.set i (some (.d x))) e]
theorem g_tup {K : PySem.W.Frag} (is : List Nat) : GOk (gTup K is.length (gsOf is)) (.tup is) := by
  intro z S H l l2 σ x v Q hl r e k
  cases x with
  | tuple xs =>
    unfold RelP at r
    obtain ⟨a, ys, rfl, _, d, rr⟩ := r
    exact ⟨a, ys, rfl, .inl (.inl d), by rw [← rr.length]; exact setAll_len e, gs_ok is z S H l l2 σ xs ys Q hl rr e k⟩
  | _ => cases e
end Ev
end
section
set_option maxRecDepth 100000
set_option maxHeartbeats 4000000
/-! EvR9: comprehensions. -/
namespace Ev
open PySem PySem.Spec PyProof.Rows L2
section
variable {z z' : Z} {S S' : Sto} {H H' : Hp}
/-- the same store over another heap -/
theorem Rep.chg (R : Rep z S H) (ag : ∀ i, i < S.length → z'.ρ i = z.ρ i) (k : ∀ a o, H a = some o → ¬ Live z S a → H' a = some o) (l : ∀ a o, H a = some o → ¬ Live z S a → ¬ Live z' S a) (lv : ∀ i, i < S.length → H' (z.ρ i) = H (z.ρ i))
    (nrz : ∀ i, i < S.length → ¬ z'.Rz (z.ρ i)) (trk : ∀ a, z'.Rz a → H' a ≠ none) : Rep z' S H' := by
  have rd : ∀ {x : DV} {v : V}, RelD z S H x v → RelD z' S H' x v := fun {x v} h => by
    cases x with
    | d x => exact RelP.mono k l x v h
    | ref i => exact ⟨h.1, by rw [ag i h.1]; exact h.2⟩
  have rds : ∀ {xs : List DV} {vs : List V}, RelDs z S H xs vs → RelDs z' S H' xs vs := fun {xs} => by
    induction xs with
    | nil => exact id
    | cons x xs ih => exact fun {vs} ⟨y, r, e, h1, h2⟩ => ⟨y, r, e, rd h1, ih h2⟩
  have rks : ∀ {κ κ' : Type} {f : κ → κ'} {xs : List (κ × PyData)} {ys : List (κ' × V)}, RelKs f H (Live z S) xs ys → RelKs f H' (Live z' S) xs ys := fun {κ κ' f xs} => by
    induction xs with
    | nil => exact id
    | cons x xs ih => exact fun {ys} ⟨y, r, e, h1, h2⟩ => ⟨y, r, e, RelP.mono k l _ _ h1, ih h2⟩
  refine ⟨fun i j hi hj e => R.inj i j hi hj (by rw [← ag i hi, ← ag j hj]; exact e), fun i hi => by rw [ag i hi]; exact nrz i hi, trk, fun i o h => ?_⟩
  have hi : i < S.length := (List.getElem?_eq_some_iff.mp h).1
  have q := R.at_ i o h
  rw [ag i hi]
  cases o with
  | lst xs => obtain ⟨ys, q1, q2⟩ := q; exact ⟨ys, by rw [lv i hi]; exact q1, RelPs.mono k l _ _ q2⟩
  | box xs => obtain ⟨ys, q1, q2⟩ := q; exact ⟨ys, by rw [lv i hi]; exact q1, rds q2⟩
  | dT xs => obtain ⟨ys, q1, q2⟩ := q; exact ⟨ys, by rw [lv i hi]; exact q1, rks q2⟩
  | dK xs => obtain ⟨ys, q1, q2⟩ := q; exact ⟨ys, by rw [lv i hi]; exact q1, rks q2⟩
/-- a new thing is set aside -/
def Z.res (z : Z) (D : Addr) : Z := ⟨fun a => z.Rz a ∨ a = D, z.ρ⟩
theorem Rep.reserve {D : Addr} {o : HO} (R : Rep z S H) (hD : H D = none) : Tr z S H (z.res D) S (upd H D o) ∧ Rep (z.res D) S (upd H D o) := by
  have nD : ∀ a u, H a = some u → a ≠ D := fun a u h => ne_of_none h hD
  refine ⟨⟨⟨fun _ h => .inl h, fun a h => h.elim .inl (fun e => .inr (e ▸ hD))⟩, Nat.le_refl _, fun _ _ => rfl, fun a u h _ => by rw [upd_ne (nD a u h)]; exact h, fun i h1 h2 => absurd h2 (by omega)⟩, ?_⟩
  refine R.chg (fun _ _ => rfl) (fun a u h _ => by rw [upd_ne (nD a u h)]; exact h) (fun a u h n q => ?_) (fun i hi => ?_) (fun i hi q => ?_) (fun a h => ?_)
  · rcases q with (q | q) | q
    · exact n (.inl q)
    · exact nD a u h q
    · exact n (.inr q)
  · exact upd_ne fun e => R.tracked hi (by rw [e]; exact hD)
  · rcases q with q | q
    · exact R.nrz i hi q
    · exact R.tracked hi (by rw [q]; exact hD)
  · by_cases e : a = D
    · subst e; rw [upd_same]; exact fun q => nomatch q
    · rw [upd_ne e]; exact R.trk a (h.elim id fun q => absurd q e)
/-- what is set aside changes -/
theorem Rep.updR {D : Addr} {o : HO} (R : Rep z S H) (hD : z.Rz D) : Rep z S (upd H D o) := by
  refine R.chg (fun _ _ => rfl) (fun a u h n => ?_) (fun a u h n => n) (fun i hi => ?_) R.nrz (fun a h => ?_)
  · rw [upd_ne (fun e => n (.inl (by rw [e]; exact hD)))]; exact h
  · exact upd_ne fun e => R.nrz i hi (by rw [e]; exact hD)
  · by_cases e : a = D
    · subst e; rw [upd_same]; exact fun q => nomatch q
    · rw [upd_ne e]; exact R.trk a h
theorem RelPs.updR {D : Addr} {o : HO} (hD : z.Rz D) {xs : List PyData} {ys : List V} (h : RelPs H (Live z S) xs ys) : RelPs (upd H D o) (Live z S) xs ys :=
  RelPs.mono (fun a u h n => by rw [upd_ne (fun e => n (.inl (by rw [e]; exact hD)))]; exact h) (fun a u h n => n) _ _ h
theorem Tr.updR {D : Addr} {o : HO} (t : Tr z S H z' S' H') (hD : H D = none) : Tr z S H z' S' (upd H' D o) :=
  ⟨t.rz, t.len, t.agr, fun a u h n => by rw [upd_ne (ne_of_none h hD)]; exact t.keep a u h n, t.fresh⟩
/-- back: D is a plain thing, or a mutable one -/
def Z.back (z' z : Z) : Z := ⟨z.Rz, z'.ρ⟩
theorem Live.back {a : Addr} (t : Tr z S H z' S' H') (h : Live (z'.back z) S' a) : Live z' S' a := h.elim (fun q => .inl (t.rz.1 a q)) .inr
theorem back_ok (R0 : Rep z S H) (t : Tr z S H z' S' H') (R : Rep z' S' H') : Tr z S H (z'.back z) S' H' ∧ Rep (z'.back z) S' H' := by
  refine ⟨⟨Grow.refl _ _, t.len, t.agr, t.keep, t.fresh⟩, ?_⟩
  refine R.chg (fun _ _ => rfl) (fun a u h _ => h) (fun a u h n q => n (q.back t)) (fun _ _ => rfl) (fun i hi q => R.nrz i hi (t.rz.1 _ q)) (fun a q => R.trk a (t.rz.1 a q))
theorem comp_end {W : WS} {l : Loc} {m : Bool} {D : Addr} {ys : List PyData} {yv : List V} {k : DV → Z → Sto → Hp → Prop} (R0 : Rep z S H) (hD : H D = none) (t : Tr z S H z' S' H') (R : Rep z' S' H') (hr : z'.Rz D) (hd : H' D = some (.lst yv)) (rr : RelPs H' (Live z' S') ys yv)
    (h : Post W l z S H (mkL m ys S') k) : ∃ v z2 S2, k v z2 S2 H' ∧ RelD z2 S2 H' v (.ref D) := by
  obtain ⟨t2, R2⟩ := back_ok R0 t R
  have nl : ¬ Live (z'.back z) S' D := by
    rintro (q | ⟨i, hi, e⟩)
    · exact R0.trk D q hD
    · have e : z'.ρ i = D := e
      exact R.nrz i hi (by rw [e]; exact hr)
  cases m with
  | false =>
    refine ⟨_, _, _, h _ _ t2 R2, ?_⟩
    show RelP _ _ (.list ys) _
    unfold RelP
    exact ⟨D, yv, rfl, nl, .inl hd, RelPs.mono (fun a u h _ => h) (fun a u _ n q => n (q.back t)) _ _ rr⟩
  | true =>
    have ag : ∀ i, i < S'.length → ((z'.back z).put S'.length D).ρ i = z'.ρ i := fun i hi => put_old hi
    have lv2 : ∀ a, Live ((z'.back z).put S'.length D) (S' ++ [.lst ys]) a → Live z' S' a := by
      rintro a (q | ⟨i, hi, e⟩)
      · exact .inl (t.rz.1 a q)
      · simp at hi
        by_cases c : i < S'.length
        · rw [ag i c] at e; exact .inr ⟨i, c, e⟩
        · have : i = S'.length := by omega
          subst this
          rw [put_new] at e; subst e; exact .inl hr
    refine ⟨.ref S'.length, (z'.back z).put S'.length D, S' ++ [.lst ys], h _ _ ?_ ?_, ⟨by simp, by rw [put_new]⟩⟩
    · refine ⟨Grow.refl _ _, by simp; exact Nat.le_succ_of_le t.len, fun i hi => (ag i (Nat.lt_of_lt_of_le hi t.len)).trans (t.agr i hi), t.keep, fun i h1 h2 => ?_⟩
      simp at h2
      by_cases c : i < S'.length
      · rw [ag i c]; exact t.fresh i h1 c
      · have : i = S'.length := by omega
        subst this
        rw [put_new]; exact hD
    · have mono1 : ∀ {x : PyData} {v : V}, RelP H' (Live z' S') x v → RelP H' (Live ((z'.back z).put S'.length D) (S' ++ [.lst ys])) x v := fun {x v} q => RelP.mono (fun a u h _ => h) (fun a u _ n q => n (lv2 a q)) x v q
      have monos : ∀ {x : List PyData} {v : List V}, RelPs H' (Live z' S') x v → RelPs H' (Live ((z'.back z).put S'.length D) (S' ++ [.lst ys])) x v := fun {x v} q => RelPs.mono (fun a u h _ => h) (fun a u _ n q => n (lv2 a q)) x v q
      have mD : ∀ {x : DV} {v : V}, RelD z' S' H' x v → RelD ((z'.back z).put S'.length D) (S' ++ [.lst ys]) H' x v := fun {x v} q => by
        cases x with
        | d x => exact mono1 q
        | ref i => exact ⟨by have := q.1; simp; omega, by rw [ag i q.1]; exact q.2⟩
      have mDs : ∀ {xs : List DV} {vs : List V}, RelDs z' S' H' xs vs → RelDs ((z'.back z).put S'.length D) (S' ++ [.lst ys]) H' xs vs := fun {xs} => by
        induction xs with
        | nil => exact id
        | cons x xs ih => exact fun {vs} ⟨y, r, e, h1, h2⟩ => ⟨y, r, e, mD h1, ih h2⟩
      have mKs : ∀ {κ κ' : Type} {f : κ → κ'} {xs : List (κ × PyData)} {vs : List (κ' × V)}, RelKs f H' (Live z' S') xs vs → RelKs f H' (Live ((z'.back z).put S'.length D) (S' ++ [.lst ys])) xs vs := fun {κ κ' f xs} => by
        induction xs with
        | nil => exact id
        | cons x xs ih => exact fun {vs} ⟨y, r, e, h1, h2⟩ => ⟨y, r, e, mono1 h1, ih h2⟩
      refine ⟨fun i j hi hj e => ?_, fun i hi q => ?_, R2.trk, fun i o' h => ?_⟩
      · simp at hi hj
        by_cases h1 : i = S'.length
        · by_cases h2 : j = S'.length
          · omega
          · subst h1; rw [put_new, ag j (by omega)] at e
            exact absurd hr (by rw [e]; exact R.nrz j (by omega))
        · by_cases h2 : j = S'.length
          · subst h2; rw [put_new, ag i (by omega)] at e
            exact absurd hr (by rw [← e]; exact R.nrz i (by omega))
          · rw [ag i (by omega), ag j (by omega)] at e
            exact R.inj i j (by omega) (by omega) e
      · simp at hi
        by_cases h1 : i = S'.length
        · subst h1; rw [put_new] at q; exact R0.trk D q hD
        · rw [ag i (by omega)] at q; exact R2.nrz i (by omega) q
      · by_cases h1 : i < S'.length
        · rw [List.getElem?_append_left h1] at h
          rw [ag i h1]
          have q := R.at_ i o' h
          cases o' with
          | lst xs => obtain ⟨us, q1, q2⟩ := q; exact ⟨us, q1, monos q2⟩
          | box xs => obtain ⟨us, q1, q2⟩ := q; exact ⟨us, q1, mDs q2⟩
          | dT xs => obtain ⟨us, q1, q2⟩ := q; exact ⟨us, q1, mKs q2⟩
          | dK xs => obtain ⟨us, q1, q2⟩ := q; exact ⟨us, q1, mKs q2⟩
        · have h2 : i < (S' ++ [OB.lst ys]).length := (List.getElem?_eq_some_iff.mp h).1
          have h3 : i = S'.length := by simp at h2; omega
          subst h3
          rw [put_new]
          have : o' = .lst ys := by simp at h; exact h.symm
          subst this
          exact ⟨yv, hd, monos rr⟩
end

/-! ### a comprehension -/
def W0 : WS := fun _ _ _ _ _ _ => False
def rdC (C : Calls) (c : Option ME) : TT := fun σ H Q => ∃ z l S, RelL z S H l σ ∧ Rep z S H ∧ Post W0 l z S H (evalC C c l S) (fun b _ _ H' => Q b H')
theorem PTs.imp {X : Cx} {e : List Expr} {t t' : TT} (h : PTs X e t) (m : ∀ σ H Q, t' σ H Q → t σ H Q) : PTs X e t' := ⟨fun pins s σ H Q I q => h.run pins s σ H Q I (m σ H Q q)⟩
theorem c_none {X : Cx} {C : Calls} : PTs X [] (rdC C none) := PTs.imp pts_nil fun σ H Q ⟨z, l, S, hl, R, h⟩ => by
  unfold evalC at h
  exact Post.ok R h
theorem c_one {X : Cx} {C : Calls} {c : Expr} {mc : ME} (h : PT X c (rdT C W0 mc)) : PTs X [c] (rdC C (some mc)) := PTs.imp (pts_one h) fun σ H Q ⟨z, l, S, hl, R, h⟩ => by
  unfold evalC at h
  exact ⟨z, l, S, hl, R, h⟩
theorem seqI {β : Type} {C : Calls} {W : WS} {l : Loc} {z : Z} {S : Sto} {H : Hp} {σ : L2.St} {k : β → Z → Sto → Hp → Prop} {it : IT} {f : Items → Sto → Res β} (hl : RelL z S H l σ) (R : Rep z S H) (h : Post W l z S H ((evalI C it l S).bind f) k) {Q : It → Hp → Prop}
    (m : ∀ J H1 z1 S1 w, At W l z S H σ H1 z1 S1 (f w S1) k → WkOf w z1 S1 H1 J → Q J H1) : rdI C W it σ H Q :=
  ⟨z, l, S, hl, R, h.bind.mono fun v z1 S1 H1 t R1 h1 J wk => m J H1 z1 S1 v ⟨t, hl.tr t, R1, h1⟩ wk⟩
theorem wipeL_len (l : Loc) : ∀ vs, (wipeL l vs).length = l.length
  | [] => rfl
  | v :: vs => by unfold wipeL; rw [List.length_set, wipeL_len l vs]
theorem wipeL_at {l : Loc} {i : Nat} {v : DV} : ∀ {vs : List Nat}, getV (wipeL l vs) i = some v → getV l i = some v ∧ i ∉ vs
  | [], h => ⟨h, by simp⟩
  | w :: vs, h => by
    unfold wipeL at h
    by_cases e : w = i
    · subst e
      unfold getV at h
      by_cases hw : w < (wipeL l vs).length
      · rw [List.getElem?_set_self hw] at h; cases h
      · rw [List.getElem?_eq_none (by simpa using hw)] at h; cases h
    · have h2 : getV (wipeL l vs) i = some v := by
        unfold getV at h ⊢
        rw [List.getElem?_set_ne e] at h; exact h
      obtain ⟨h3, h4⟩ := wipeL_at h2
      exact ⟨h3, by simp only [List.mem_cons, not_or]; exact ⟨fun q => e q.symm, h4⟩⟩
theorem RelL.wipe {z : Z} {S : Sto} {H : Hp} {l : Loc} {σ : L2.St} (h : RelL z S H l σ) (vs : List Nat) : RelL z S H (wipeL l vs) (L2.wipe σ vs) := by
  refine ⟨by rw [wipeL_len, wipe_length]; exact h.len, fun i v e => ?_⟩
  obtain ⟨h1, h2⟩ := wipeL_at e
  obtain ⟨u, h3, h4⟩ := h.at_ i v h1
  refine ⟨u, ?_, h4⟩
  rw [wipe_at, if_neg (fun q => h2 q.1)]
  exact h3
theorem wipe_wipe (σ : L2.St) (vs : List Nat) : L2.wipe (L2.wipe σ vs) vs = L2.wipe σ vs := wipe_ext (by rw [wipe_length]) fun j hj => by rw [wipe_at, if_neg (fun q => hj q.1)]
def slotsIn (t : TG) (vs : List Nat) : Prop := match t with
  | .name i => i ∈ vs
  | .tup is => ∀ i ∈ is, i ∈ vs
theorem bind_ok {α β : Type} {r : Res α} {f : α → Sto → Res β} {v : β} {S : Sto} (h : r.bind f = .ok v S) : ∃ a S1, r = .ok a S1 ∧ f a S1 = .ok v S := by
  cases r with
  | ok a S1 => exact ⟨a, S1, rfl, h⟩
  | err _ _ _ => cases h
  | stuck => cases h
theorem lc_ev {W : WS} {C : Calls} {gg : L2.TG} {t : TG} {it : IT} {c : Option ME} {me : ME} {vs : List Nat} (m : Bool) (hgk : GOk gg t) (hsl : slotsIn t vs) (σ : L2.St) (H : Hp) (Q : VK) (h : rdE C W (.comp m vs t it c me) σ H Q) :
    tLc (rdI C W it) gg (rdC C c) (rdE C W0 me) vs σ H Q := by
    obtain ⟨z, l, S, hl, R, h⟩ := h
    unfold evalE at h
    refine seqI hl R h fun J H1 z1 S1 w a1 wk => ?_
    have h1 := a1.h
    have cl : w.xs.length ≤ LIM := by
      by_cases cl : w.xs.length ≤ LIM
      · exact cl
      · rw [if_neg cl] at h1; exact h1.elim
    rw [if_pos cl] at h1
    intro D hD
    generalize hf : compF (fun l2 S2 => evalC C c l2 S2) (fun l2 S2 => evalE C me l2 S2) t (wipeL l vs) = f at h1
    cases eq : compLoop w f w.xs [] S1 with
    | err _ _ _ => rw [eq] at h1; exact h1.elim
    | stuck => rw [eq] at h1; exact h1.elim
    | ok ys S7 =>
      rw [eq] at h1
      have h7 : Post W l z1 S1 H1 (mkL m ys S7) (fun v z' S' H' => ∀ u, RelD z' S' H' v u → Q u H') := h1
      obtain ⟨st0, G, Y, wlk, hG, hY⟩ := wk
      obtain ⟨tD, RD⟩ := a1.R.reserve (o := .lst []) hD
      refine lc_it wlk (fun i H => ∃ z' S' acc accV, Tr z1 S1 H1 z' S' H ∧ Rep z' S' H ∧ z'.Rz D ∧ still w S' = true ∧ H D = some (.lst accV) ∧ RelPs H (Live z' S') acc accV ∧ acc.length ≤ i ∧ compLoop w f (w.xs.drop i) acc S' = .ok ys S7)
        ⟨_, S1, [], [], tD, RD, .inr rfl, st0, upd_same, RelPs.nil, Nat.le_refl _, eq⟩ ?_ ?_ ?_
      · rintro i H _ ⟨z', S', acc, accV, t', R', _, st, _⟩
        exact hG z' S' H t' R' st
      · rintro i v H H' hi ⟨z', S', acc, accV, t', R', rz, st, hd, rr, hlen, eqi⟩ yv
        have ex : w.xs[i]? = some w.xs[i] := List.getElem?_eq_getElem hi
        obtain ⟨tY, RY, rx⟩ := hY i z' S' H w.xs[i] v H' t' R' st ex yv
        rw [List.drop_eq_getElem_cons hi] at eqi
        obtain ⟨yo, S2, ef, eqi⟩ := bind_ok (show Res.bind (f w.xs[i] S') _ = _ from eqi)
        have eqi2 : (if still w S2 = true then compLoop w f (w.xs.drop (i + 1)) (pushO acc yo) S2 else .stuck) = .ok ys S7 := eqi
        have st2 : still w S2 = true := by
          by_cases st2 : still w S2 = true
          · exact st2
          · rw [if_neg st2] at eqi2; cases eqi2
        rw [if_pos st2] at eqi2
        rw [← hf] at ef
        unfold compF at ef
        cases eb : bindT t w.xs[i] (wipeL l vs) with
        | none => rw [eb] at ef; cases ef
        | some l2 =>
          rw [eb] at ef
          obtain ⟨kk, S3, ec, ef⟩ := bind_ok (show Res.bind (evalC C c l2 S') _ = _ from ef)
          have hlY := ((a1.L.tr t').tr tY).wipe vs
          refine hgk z' S' H' _ l2 _ _ v _ hlY rx eb fun σ2 hl2 hw => ⟨by rw [hw _ hsl, wipe_wipe], ?_⟩
          have hdY : H' D = some (.lst accV) := tY.keep D _ hd fun ⟨j, hj, e⟩ => R'.nrz j hj (by rw [e]; exact rz)
          refine ⟨z', l2, S', hl2, RY, ?_⟩
          rw [ec]
          intro z3 H3 t3 R3
          have hd3 : H3 D = some (.lst accV) := t3.keep D _ hdY fun ⟨j, hj, e⟩ => RY.nrz j hj (by rw [e]; exact rz)
          have t03 : Tr z1 S1 H1 z3 S3 H3 := (t'.trans R' tY).trans RY t3
          cases kk with
          | false =>
            refine iteF ?_
            have ef : Res.ok none S3 = Res.ok yo S2 := ef
            cases ef
            exact ⟨z3, _, acc, accV, t03, R3, t3.rz.1 _ rz, st2, hd3, (rr.tr tY).tr t3, Nat.le_succ_of_le hlen, eqi2⟩
          | true =>
            refine iteT ?_
            obtain ⟨vv, S4, ee, ef⟩ := bind_ok (show Res.bind (evalE C me l2 S3) _ = _ from ef)
            cases vv with
            | ref _ => cases ef
            | d y =>
              have ef : Res.ok (some y) S4 = Res.ok yo S2 := ef
              cases ef
              refine ⟨z3, l2, S3, hl2.tr t3, R3, ?_⟩
              rw [ee]
              intro z4 H4 t4 R4 u ru
              have rz4 : z4.Rz D := t4.rz.1 _ (t3.rz.1 _ rz)
              have hd4 : H4 D = some (.lst accV) := t4.keep D _ hd3 fun ⟨j, hj, e⟩ => R3.nrz j hj (by rw [e]; exact t3.rz.1 _ rz)
              have rr4 := ((rr.tr tY).tr t3).tr t4
              refine ⟨accV, hd4, by rw [← rr.length]; exact lim_lt (by omega), z4, _, acc ++ [y], accV ++ [u], (t03.trans R3 t4).updR hD, R4.updR rz4, rz4, st2, upd_same, RelPs.updR rz4 (rr4.append (RelPs.one ru)), by simp; omega, eqi2⟩
      · rintro H ⟨z', S', acc, accV, t', R', rz, st, hd, rr, hlen, eqi⟩
        rw [List.drop_length] at eqi
        have eqi : Res.ok acc S' = Res.ok ys S7 := eqi
        cases eqi
        obtain ⟨v, z2, S2, k1, r1⟩ := comp_end a1.R hD t' R' rz hd rr h7
        exact k1 _ r1
theorem e_comp {X : Cx} {W : WS} {C : Calls} {elt tg iter : Expr} {ifs : List Expr} {scope : Scope} {own : List (Str × Nat)} {pos : Pos} {gg : L2.TG} {t : TG} {it : IT} {c : Option ME} {me : ME} (m : Bool) (hc : X.calm = true) (hN : X.N.Nodup) (hi : PI X tg iter (rdI C W it)) (ok : BlkOk X.N X.env.scope scope own)
    (hg : ∀ (s : Shared) (H : Hp) (Cc : Addr) (cl : List (Str × Addr)) (fp : List Addr), PG (X.blk s H scope (compEnvC scope cl Cc X.env) fp) tg gg) (hgk : GOk gg t) (hsl : slotsIn t (own.map (·.2)))
    (ht : ∀ (s : Shared) (H : Hp) (Cc : Addr) (cl : List (Str × Addr)) (fp : List Addr), PTs (X.blk s H scope (compEnvC scope cl Cc X.env) fp) ifs (rdC C c))
    (he : ∀ (s : Shared) (H : Hp) (Cc : Addr) (cl : List (Str × Addr)) (fp : List Addr), PE (X.blk s H scope (compEnvC scope cl Cc X.env) fp) elt (rdE C W0 me)) (hs : ∀ x, foldedSetIterable iter X.env x = pure x := by intro _; rfl) :
    PE X (.ListComp elt [⟨tg, iter, ifs, 0⟩] scope pos) (rdE C W (.comp m (own.map (·.2)) t it c me)) :=
  PE.imp (pe_lc hc hN hi ok hg ht he hs) fun σ H Q h => lc_ev m hgk hsl σ H Q h
end Ev
end
section
set_option maxRecDepth 100000
set_option maxHeartbeats 4000000
/-! EvS1: statements. -/
namespace Ev
open PySem PySem.Spec PyProof.Rows L2
def PostS (W : WS) (z : Z) (S : Sto) (H : Hp) (r : SRes) (D : Ends) : Prop := match r with
  | .next l' S' => ∀ z' H' σ', Tr z S H z' S' H' → Rep z' S' H' → RelL z' S' H' l' σ' → D.nx σ' H'
  | .ret v S' => ∀ z' H' u, Tr z S H z' S' H' → Rep z' S' H' → RelD z' S' H' v u → D.rt u H'
  | .brk l' S' => ∀ z' H' σ', Tr z S H z' S' H' → Rep z' S' H' → RelL z' S' H' l' σ' → D.bk σ' H'
  | .cnt l' S' => ∀ z' H' σ', Tr z S H z' S' H' → Rep z' S' H' → RelL z' S' H' l' σ' → D.ct σ' H'
  | .err c x l' S' => ∀ z' H', Tr z S H z' S' H' → Rep z' S' H' → W c x l' z' S' H'
  | .stuck => False
def rdS (C : Calls) (n : Nat) (W : WS) (s : MS) : TS := fun D σ H => ∃ z l S, RelL z S H l σ ∧ Rep z S H ∧ PostS W z S H (evalS C n s l S) D
def rdSs (C : Calls) (n : Nat) (W : WS) (s : List MS) : TS := fun D σ H => ∃ z l S, RelL z S H l σ ∧ Rep z S H ∧ PostS W z S H (evalSs C n s l S) D
theorem PS.imp {X : Cx} {e : Stmt} {t t' : TS} (h : PS X e t) (m : ∀ D σ H, t' D σ H → t D σ H) : PS X e t' := ⟨fun pins s σ H D I q => h.run pins s σ H D I (m D σ H q)⟩
theorem PSs.imp {X : Cx} {e : List Stmt} {t t' : TS} (h : PSs X e t) (m : ∀ D σ H, t' D σ H → t D σ H) : PSs X e t' := ⟨fun pins s σ H D I q => h.run pins s σ H D I (m D σ H q)⟩
section
variable {C : Calls} {n : Nat} {W : WS} {z z1 : Z} {l : Loc} {S S1 : Sto} {H H1 : Hp} {σ : L2.St} {D : Ends}
theorem PostS.tr {r : SRes} (h : PostS W z S H r D) (t : Tr z S H z1 S1 H1) (R : Rep z1 S1 H1) : PostS W z1 S1 H1 r D := by
  cases r with
  | next l' S' => exact fun z' H' σ' t' R' q => h z' H' σ' (t.trans R t') R' q
  | ret l' S' => exact fun z' H' σ' t' R' q => h z' H' σ' (t.trans R t') R' q
  | brk l' S' => exact fun z' H' σ' t' R' q => h z' H' σ' (t.trans R t') R' q
  | cnt l' S' => exact fun z' H' σ' t' R' q => h z' H' σ' (t.trans R t') R' q
  | err c x l' S' => exact fun z' H' t' R' => h z' H' (t.trans R t') R'
  | stuck => exact h
/-- what is known behind a part -/
structure AtS (W : WS) (l : Loc) (z : Z) (S : Sto) (H : Hp) (σ : L2.St) (H1 : Hp) (z1 : Z) (S1 : Sto) (r : SRes) (D : Ends) : Prop where
  t : Tr z S H z1 S1 H1
  L : RelL z1 S1 H1 l σ
  R : Rep z1 S1 H1
  h : PostS W z1 S1 H1 r D
theorem st_post {α : Type} {r : Res α} {f : α → Sto → SRes} (hl : RelL z S H l σ) (h : PostS W z S H (r.st l f) D) : Post W l z S H r (fun v z1 S1 H1 => AtS W l z S H σ H1 z1 S1 (f v S1) D) := by
  cases r with
  | ok v S1 =>
    intro z1 H1 t R
    exact ⟨t, hl.tr t, R, PostS.tr (show PostS W z S H (f v S1) D from h) t R⟩
  | err c x S1 => exact h
  | stuck => exact h
theorem seqES {a : ME} {f : DV → Sto → SRes} (hl : RelL z S H l σ) (R : Rep z S H) (h : PostS W z S H ((evalE C a l S).st l f) D) {Q : VK}
    (m : ∀ u H1 z1 S1 v, AtS W l z S H σ H1 z1 S1 (f v S1) D → RelD z1 S1 H1 v u → Q u H1) : rdE C W a σ H Q :=
  ⟨z, l, S, hl, R, (st_post hl h).mono fun v z1 S1 H1 t R1 h1 u ru => m u H1 z1 S1 v h1 ru⟩
theorem seqTS {a : ME} {f : Bool → Sto → SRes} (hl : RelL z S H l σ) (R : Rep z S H) (h : PostS W z S H ((evalT C a l S).st l f) D) {Q : Bool → Hp → Prop}
    (m : ∀ b H1 z1 S1, AtS W l z S H σ H1 z1 S1 (f b S1) D → Q b H1) : rdT C W a σ H Q :=
  ⟨z, l, S, hl, R, (st_post hl h).mono fun v z1 S1 H1 t R1 h1 => m v H1 z1 S1 h1⟩
theorem seqAS {a : List ME} {f : List DV → Sto → SRes} (hl : RelL z S H l σ) (R : Rep z S H) (h : PostS W z S H ((evalEs C a l S).st l f) D) {Q : List V → Hp → Prop}
    (m : ∀ us H1 z1 S1 vs, AtS W l z S H σ H1 z1 S1 (f vs S1) D → RelDs z1 S1 H1 vs us → Q us H1) : rdA C W a σ H Q :=
  ⟨z, l, S, hl, R, (st_post hl h).mono fun v z1 S1 H1 t R1 h1 u ru => m u H1 z1 S1 v h1 ru⟩
theorem seqIS {it : IT} {f : Items → Sto → SRes} (hl : RelL z S H l σ) (R : Rep z S H) (h : PostS W z S H ((evalI C it l S).st l f) D) {Q : It → Hp → Prop}
    (m : ∀ J H1 z1 S1 w, AtS W l z S H σ H1 z1 S1 (f w S1) D → WkOf w z1 S1 H1 J → Q J H1) : rdI C W it σ H Q :=
  ⟨z, l, S, hl, R, (st_post hl h).mono fun v z1 S1 H1 t R1 h1 J wk => m J H1 z1 S1 v h1 wk⟩
theorem PostS.next (R : Rep z S H) {l' : Loc} {σ' : L2.St} (hl : RelL z S H l' σ') (h : PostS W z S H (.next l' S) D) : D.nx σ' H := h z H σ' (Tr.refl _ _ _) R hl
end
theorem par_of {W : WS} {z : Z} {S : Sto} {H : Hp} {l : Loc} {is : List Nat} {vs : List DV} {D : Ends} (h : PostS W z S H (ofOS (setAllD l is vs) S) D) : ∃ l2, setAllD l is vs = some l2 ∧ PostS W z S H (.next l2 S) D := by
  cases q : setAllD l is vs with
  | none => rw [q] at h; exact h.elim
  | some l2 => rw [q] at h; exact ⟨l2, rfl, h⟩
theorem set_two {l l2 : Loc} {i j : Nat} {vs : List DV} (h : setAllD l [i, j] vs = some l2) : ∃ v w, vs = [v, w] ∧ l2 = (l.set i (some v)).set j (some w) := by
  cases vs with
  | nil => cases h
  | cons v r =>
    cases r with
    | nil => cases h
    | cons w r =>
      cases r with
      | nil => exact ⟨v, w, rfl, (Option.some.inj h).symm⟩
      | cons _ _ => cases h
theorem set_three {l l2 : Loc} {i j k : Nat} {vs : List DV} (h : setAllD l [i, j, k] vs = some l2) : ∃ v w x, vs = [v, w, x] ∧ l2 = ((l.set i (some v)).set j (some w)).set k (some x) := by
  cases vs with
  | nil => cases h
  | cons v r =>
    obtain ⟨w, x, e, e'⟩ := set_two (l := l.set i (some v)) (vs := r) (show setAllD (l.set i (some v)) [j, k] r = some l2 from h)
    exact ⟨v, w, x, by rw [e], e'⟩
section
variable {X : Cx} {W : WS} {C : Calls} {n : Nat} {a b c d e o tg : Expr} {es rest : List Expr} {ma mb mc md mo : ME} {ms : List ME} {pos : Pos} {st : Stmt} {sts : List Stmt} {s : MS} {ss s1 s2 : List MS}
theorem ss_nil : PSs X [] (rdSs C n W []) := PSs.imp pss_nil fun D σ H ⟨z, l, S, hl, R, h⟩ => by
  unfold evalSs at h
  exact PostS.next R hl h
theorem ss_cons (h1 : PS X st (rdS C n W s)) (h2 : PSs X sts (rdSs C n W ss)) : PSs X (st :: sts) (rdSs C n W (s :: ss)) := PSs.imp (pss_cons h1 h2) fun D σ H ⟨z, l, S, hl, R, h⟩ => by
  unfold evalSs at h
  refine ⟨z, l, S, hl, R, ?_⟩
  revert h
  cases evalS C n s l S with
  | next l1 S1 => exact fun h z1 H1 σ1 t R1 hl1 => ⟨z1, l1, S1, hl1, R1, PostS.tr (show PostS W z S H (evalSs C n ss l1 S1) D from h) t R1⟩
  | ret _ _ => exact id
  | brk _ _ => exact id
  | cnt _ _ => exact id
  | err _ _ _ _ => exact id
  | stuck => exact id
theorem s_set {i : Nat} {x : Str} {pos' : Pos} (g : X.N.Nodup) (he : PE X e (rdE C W ma)) (hi : X.N[i]? = some x := by rfl) (hx : L2.Loc X.env.scope x := by first | exact Or.inl rfl | exact Or.inr rfl) (hs : swapsWith e (some (.Name x pos')) pos.line X.env = pure false := by rfl)
    (hf : X.fn x = true ∨ X.env.scope.names.lookup x = some .local := by first | exact .inl rfl | exact .inr rfl | assumption) : PS X (.Assign [.Name x pos'] e pos) (rdS C n W (.set i ma)) :=
  PS.imp (ps_set g hi hx he hs hf) fun D σ H ⟨z, l, S, hl, R, h⟩ => by
    unfold evalS at h
    exact seqES hl R h fun u H1 z1 S1 v a1 rv => PostS.next a1.R (a1.L.set rv) a1.h
theorem s_unpack {is : List Nat} {ts : List Expr} {kk : Nat} {pt : Pos} (g : X.calm = true) (he : PE X e (rdE C W ma)) (hp : PGs X ts (gsOf is)) (hn : (assignEach ts X.env).length = is.length := by rfl) (hst : (assignEach ts X.env).findIdx? (·.1) = none := by rfl)
    (hs : swapsWithSole [.Tuple ts kk pt] e pos.line X.env = pure false := by rfl) (hw : swappedStores [.Tuple ts kk pt] e X.env = pure none := by rfl) (h1 : (assignEach [.Tuple ts kk pt] X.env).map (·.2) = [assign (.Tuple ts kk pt) X.env] := by rfl) :
    PS X (.Assign [.Tuple ts kk pt] e pos) (rdS C n W (.unpack is ma)) :=
  PS.imp (ps_asg he (pg_tup g hp hn hst) hs hw h1) fun D σ H ⟨z, l, S, hl, R, h⟩ => by
    unfold evalS at h
    refine seqES hl R h fun u H1 z1 S1 v a1 rv => ?_
    have h1 := a1.h
    cases v with
    | ref _ => exact h1.elim
    | d x =>
      cases x with
      | tuple xs =>
        have h1 : PostS W z1 S1 H1 (ofOS (setAll l is xs) S1) D := h1
        cases q : setAll l is xs with
        | none => rw [q] at h1; exact h1.elim
        | some l2 =>
          rw [q] at h1
          exact g_tup is z1 S1 H1 l l2 σ (.tuple xs) u _ a1.L rv q fun σ2 hl2 _ => PostS.next a1.R hl2 h1
      | _ => exact h1.elim
theorem s_par2 {i j : Nat} {x y : Str} {px py pt : Pos} {kt k2 pt2} (hc : X.calm = true) (hN : X.N.Nodup) (ha : PA X [a, b] (rdA C W ms)) (hi : X.N[i]? = some x := by rfl) (hj : X.N[j]? = some y := by rfl) (hij : i ≠ j := by decide)
    (hx : X.env.scope.names.lookup x = some .local := by rfl) (hy : X.env.scope.names.lookup y = some .local := by rfl)
    (hw : swappedStores [.Tuple [.Name x px, .Name y py] kt pt] (.Tuple [a, b] k2 pt2) X.env = pure (some [x, y]) := by rfl)
    (hs : swapsWithSole [.Tuple [.Name x px, .Name y py] kt pt] (.Tuple [a, b] k2 pt2) pos.line X.env = pure false := by rfl) : PS X (.Assign [.Tuple [.Name x px, .Name y py] kt pt] (.Tuple [a, b] k2 pt2) pos) (rdS C n W (.par [i, j] ms)) :=
  PS.imp (ps_par hc hN hi hj hij hx hy ha hw hs) fun D σ H ⟨z, l, S, hl, R, h⟩ => by
    unfold evalS at h
    refine seqAS hl R h fun us H1 z1 S1 vs a1 rs => ?_
    obtain ⟨l2, q, h2⟩ := par_of a1.h
    obtain ⟨v, w, rfl, rfl⟩ := set_two q
    obtain ⟨u1, u2, rfl, r1, r2⟩ := two_of rs
    exact ⟨u1, u2, rfl, PostS.next a1.R ((a1.L.set r1).set r2) h2⟩
theorem s_par3 {i j k : Nat} {x y w : Str} {px py pz pt : Pos} {kt k2 pt2} (hc : X.calm = true) (hN : X.N.Nodup) (ha : PA X [a, b, c] (rdA C W ms)) (hi : X.N[i]? = some x := by rfl) (hj : X.N[j]? = some y := by rfl) (hk : X.N[k]? = some w := by rfl) (hij : i ≠ j := by decide) (hik : i ≠ k := by decide) (hjk : j ≠ k := by decide)
    (hx : X.env.scope.names.lookup x = some .local := by rfl) (hy : X.env.scope.names.lookup y = some .local := by rfl) (hz : X.env.scope.names.lookup w = some .local := by rfl)
    (hw : swappedStores [.Tuple [.Name x px, .Name y py, .Name w pz] kt pt] (.Tuple [a, b, c] k2 pt2) X.env = pure (some [x, y, w]) := by rfl)
    (hs : swapsWithSole [.Tuple [.Name x px, .Name y py, .Name w pz] kt pt] (.Tuple [a, b, c] k2 pt2) pos.line X.env = pure false := by rfl) : PS X (.Assign [.Tuple [.Name x px, .Name y py, .Name w pz] kt pt] (.Tuple [a, b, c] k2 pt2) pos) (rdS C n W (.par [i, j, k] ms)) :=
  PS.imp (ps_par3 hc hN hi hj hk hij hik hjk hx hy hz ha hw hs) fun D σ H ⟨z, l, S, hl, R, h⟩ => by
    unfold evalS at h
    refine seqAS hl R h fun us H1 z1 S1 vs a1 rs => ?_
    obtain ⟨l2, q, h2⟩ := par_of a1.h
    obtain ⟨v, w, x, rfl, rfl⟩ := set_three q
    obtain ⟨u1, t, rfl, r1, rs⟩ := rs
    obtain ⟨u2, u3, rfl, r2, r3⟩ := two_of rs
    exact ⟨u1, u2, u3, rfl, PostS.next a1.R (((a1.L.set r1).set r2).set r3) h2⟩
theorem s_expr (he : PE X e (rdE C W ma)) (hs : swapsWith e none pos.line X.env = pure false := by rfl) : PS X (.Expr e pos) (rdS C n W (.expr ma)) :=
  PS.imp (ps_expr he hs) fun D σ H ⟨z, l, S, hl, R, h⟩ => by
    unfold evalS at h
    exact seqES hl R h fun u H1 z1 S1 v a1 rv => PostS.next a1.R a1.L a1.h
theorem s_ite {sa sb : List Stmt} (hc : PT X c (rdT C W mc)) (ha : PSs X sa (rdSs C n W s1)) (hb : PSs X sb (rdSs C n W s2)) : PS X (.If c sa sb pos) (rdS C n W (.ite mc s1 s2)) :=
  PS.imp (ps_if hc ha hb) fun D σ H ⟨z, l, S, hl, R, h⟩ => by
    unfold evalS at h
    refine seqTS hl R h fun k H1 z1 S1 a1 => ?_
    have h1 := a1.h
    cases k with
    | true => refine iteT ?_; exact ⟨z1, l, S1, a1.L, a1.R, by rw [if_pos rfl] at h1; exact h1⟩
    | false => refine iteF ?_; exact ⟨z1, l, S1, a1.L, a1.R, by rw [if_neg Bool.false_ne_true] at h1; exact h1⟩
theorem s_ret (he : PE X e (rdE C W ma)) : PS X (.Return (some e) pos) (rdS C n W (.ret ma)) :=
  PS.imp (ps_ret he) fun D σ H ⟨z, l, S, hl, R, h⟩ => by
    unfold evalS at h
    exact seqES hl R h fun u H1 z1 S1 v a1 rv => a1.h z1 H1 u (Tr.refl _ _ _) a1.R rv
theorem s_retN : PS X (.Return none pos) (rdS C n W .retN) := PS.imp ps_retN fun D σ H ⟨z, l, S, hl, R, h⟩ => by
  unfold evalS at h
  exact h z H .non (Tr.refl _ _ _) R rD_n
theorem s_pass : PS X (.Pass pos) (rdS C n W .pass) := PS.imp ps_pass fun D σ H ⟨z, l, S, hl, R, h⟩ => by
  unfold evalS at h
  exact PostS.next R hl h
theorem s_brk : PS X (.Break pos) (rdS C n W .brk) := PS.imp ps_break fun D σ H ⟨z, l, S, hl, R, h⟩ => by
  unfold evalS at h
  exact h z H σ (Tr.refl _ _ _) R hl
theorem s_cnt : PS X (.Continue pos) (rdS C n W .cnt) := PS.imp ps_continue fun D σ H ⟨z, l, S, hl, R, h⟩ => by
  unfold evalS at h
  exact h z H σ (Tr.refl _ _ _) R hl
theorem s_for {k : Nat} {gg : L2.TG} {t : TG} {it : IT} {iter : Expr} {body : List Stmt} (g : Good X W k) (hi : PI X tg iter (rdI C W it)) (hg : PG X tg gg) (hgk : GOk gg t) (hb : PSs X body (rdSs C n W ss)) (hs : ∀ x, foldedSetIterable iter X.env x = pure x := by intro _; rfl) :
    PS X (.For tg iter body [] pos) (rdS C n W (.forS t it ss)) :=
  PS.imp (ps_for g.po g.calm hi hg hb hs) fun D σ H ⟨z, l, S, hl, R, h⟩ => by
    unfold evalS at h
    refine seqIS hl R h fun J H1 z1 S1 w a1 wk => ?_
    have h1 := a1.h
    obtain ⟨st0, G, Y, wlk, hG, hY⟩ := wk
    generalize hf : forF (fun l2 S2 => evalSs C n ss l2 S2) t = f at h1
    refine for_it wlk (fun i σ H => ∃ z' l' S', RelL z' S' H l' σ ∧ Rep z' S' H ∧ Tr z1 S1 H1 z' S' H ∧ still w S' = true ∧ PostS W z' S' H (forLoop w f (w.xs.drop i) l' S') D)
      ⟨z1, l, S1, a1.L, a1.R, Tr.refl _ _ _, st0, h1⟩ ?_ ?_ ?_
    · rintro i σ H _ ⟨z', l', S', _, R', t', st, _⟩
      exact hG z' S' H t' R' st
    · rintro i v σ H H' hi ⟨z', l', S', hl', R', t', st, hp⟩ yv
      have ex : w.xs[i]? = some w.xs[i] := List.getElem?_eq_getElem hi
      obtain ⟨tY, RY, rx⟩ := hY i z' S' H w.xs[i] v H' t' R' st ex yv
      rw [List.drop_eq_getElem_cons hi] at hp
      have hp := PostS.tr hp tY RY
      unfold forLoop at hp
      have t1 := t'.trans R' tY
      cases eb : bindT t w.xs[i] l' with
      | none => rw [← hf] at hp; unfold forF at hp; rw [eb] at hp; exact hp.elim
      | some l2 =>
        refine hgk z' S' H' l' l2 σ _ v _ (hl'.tr tY) rx eb fun σ2 hl2 _ => ⟨z', l2, S', hl2, RY, ?_⟩
        have ef : f w.xs[i] l' S' = evalSs C n ss l2 S' := by rw [← hf]; unfold forF; rw [eb]
        rw [ef] at hp
        have again : ∀ l3 S3, PostS W z' S' H' (if still w S3 = true then forLoop w f (w.xs.drop (i + 1)) l3 S3 else .stuck) D → ∀ z3 H3 σ3, Tr z' S' H' z3 S3 H3 → Rep z3 S3 H3 → RelL z3 S3 H3 l3 σ3 →
            ∃ z' l' S', RelL z' S' H3 l' σ3 ∧ Rep z' S' H3 ∧ Tr z1 S1 H1 z' S' H3 ∧ still w S' = true ∧ PostS W z' S' H3 (forLoop w f (w.xs.drop (i + 1)) l' S') D := fun l3 S3 hp z3 H3 σ3 t3 R3 hl3 => by
          by_cases c : still w S3 = true
          · rw [if_pos c] at hp
            exact ⟨z3, l3, S3, hl3, R3, t1.trans RY t3, c, PostS.tr hp t3 R3⟩
          · rw [if_neg c] at hp; exact hp.elim
        revert hp
        cases evalSs C n ss l2 S' with
        | next l3 S3 => exact again l3 S3
        | cnt l3 S3 => exact again l3 S3
        | brk l3 S3 => exact id
        | ret v S3 => exact id
        | err c x l3 S3 => exact id
        | stuck => exact id
    · rintro σ H ⟨z', l', S', hl', R', t', st, hp⟩
      rw [List.drop_length] at hp
      exact PostS.next R' hl' hp
theorem s_while {k : Nat} {body : List Stmt} (g : Good X W k) (hc : PT X c (rdT C W mc)) (hb : PSs X body (rdSs C n W ss)) : PS X (.While c body [] pos) (rdS C n W (.whileS mc ss)) :=
  PS.imp (ps_while g.po hc hb) fun D σ H ⟨z, l, S, hl, R, h⟩ => by
    unfold evalS at h
    refine ⟨fun m σ H => ∃ z' l' S', RelL z' S' H l' σ ∧ Rep z' S' H ∧ PostS W z' S' H (whileLoop (fun l2 S2 => evalT C mc l2 S2) (fun l2 S2 => evalSs C n ss l2 S2) m l' S') D, ⟨n, z, l, S, hl, R, h⟩, ?_⟩
    rintro m σ H ⟨z', l', S', hl', R', hp⟩
    cases m with
    | zero => exact hp.elim
    | succ m =>
      unfold whileLoop at hp
      refine seqTS hl' R' hp fun b H1 z1 S1 a1 => ?_
      have h1 := a1.h
      cases b with
      | false =>
        refine iteF ?_
        rw [if_neg Bool.false_ne_true] at h1
        exact PostS.next a1.R a1.L h1
      | true =>
        refine iteT ?_
        rw [if_pos rfl] at h1
        refine ⟨fun σ' H' => ∃ z' l' S', RelL z' S' H' l' σ' ∧ Rep z' S' H' ∧ PostS W z' S' H' (whileLoop (fun l2 S2 => evalT C mc l2 S2) (fun l2 S2 => evalSs C n ss l2 S2) m l' S') D, fun σ' H' q => ⟨m, Nat.lt_succ_self _, q⟩, z1, l', S1, a1.L, a1.R, ?_⟩
        revert h1
        cases evalSs C n ss l' S1 with
        | next l3 S3 => exact fun hp z3 H3 σ3 t3 R3 hl3 => ⟨z3, l3, S3, hl3, R3, PostS.tr (show PostS W z1 S1 H1 (whileLoop _ _ m l3 S3) D from hp) t3 R3⟩
        | cnt l3 S3 => exact fun hp z3 H3 σ3 t3 R3 hl3 => ⟨z3, l3, S3, hl3, R3, PostS.tr (show PostS W z1 S1 H1 (whileLoop _ _ m l3 S3) D from hp) t3 R3⟩
        | brk l3 S3 => exact id
        | ret v S3 => exact id
        | err c x l3 S3 => exact id
        | stuck => exact id
end
end Ev
end
section
set_option maxRecDepth 100000
set_option maxHeartbeats 4000000
/-! EvF: a whole function. -/
namespace Ev
open PySem PySem.Spec PyProof.Rows L2
section
variable {z z' : Z} {S S1 : Sto} {H H' : Hp}
theorem live_take {n : Nat} {a : Addr} (h : Live z (S.take n) a) : Live z S a := h.elim .inl fun ⟨i, hi, e⟩ => .inr ⟨i, Nat.lt_of_lt_of_le hi (by rw [List.length_take]; exact Nat.min_le_right _ _), e⟩
theorem RelP.less {n : Nat} {x : PyData} {v : V} (h : RelP H (Live z S) x v) : RelP H (Live z (S.take n)) x v := RelP.mono (fun _ _ e _ => e) (fun _ _ _ nl q => nl (live_take q)) x v h
theorem RelPs.less {n : Nat} {x : List PyData} {v : List V} (h : RelPs H (Live z S) x v) : RelPs H (Live z (S.take n)) x v := RelPs.mono (fun _ _ e _ => e) (fun _ _ _ nl q => nl (live_take q)) x v h
theorem RelKs.less {κ κ' : Type} {f : κ → κ'} {n : Nat} : ∀ {xs : List (κ × PyData)} {ys : List (κ' × V)}, RelKs f H (Live z S) xs ys → RelKs f H (Live z (S.take n)) xs ys
  | [], _, h => h
  | _ :: _, _, ⟨y, r, e, h1, h2⟩ => ⟨y, r, e, h1.less, RelKs.less h2⟩
def inB (n : Nat) : DV → Bool
  | .ref i => decide (i < n)
  | .d _ => true
theorem RelD.less {n : Nat} (hn : n ≤ S.length) {x : DV} {v : V} (b : inB n x = true) (h : RelD z S H x v) : RelD z (S.take n) H x v := by
  cases x with
  | d x => exact RelP.less (show RelP H (Live z S) x v from h)
  | ref i =>
    have b : i < n := of_decide_eq_true b
    exact ⟨by rw [List.length_take]; omega, h.2⟩
theorem RelDs.less {n : Nat} (hn : n ≤ S.length) : ∀ {xs : List DV} {vs : List V}, xs.all (inB n) = true → RelDs z S H xs vs → RelDs z (S.take n) H xs vs
  | [], _, _, h => h
  | x :: xs, _, b, ⟨y, r, e, h1, h2⟩ => by
    rw [List.all_cons, Bool.and_eq_true] at b
    exact ⟨y, r, e, RelD.less hn b.1 h1, RelDs.less hn b.2 h2⟩
theorem inB_eq (n : Nat) : (fun v : DV => match v with
    | .ref i => decide (i < n)
    | .d _ => true) = inB n := by
  funext v
  cases v <;> rfl
def boxB (n : Nat) : OB → Bool
  | .box vs => vs.all (inB n)
  | _ => true
theorem closedB_eq (n : Nat) (S : Sto) : closedB n S = S.all (boxB n) := by
  unfold closedB
  congr 1
/-- the function's own things are no longer named -/
theorem trunc {n : Nat} (hS : S.length = n) (t : Tr z S H z' S1 H') (R : Rep z' S1 H') (c : closedB n (S1.take n) = true) : Tr z S H z' (S1.take n) H' ∧ Rep z' (S1.take n) H' := by
  have hn : n ≤ S1.length := hS ▸ t.len
  have hl : (S1.take n).length = n := by rw [List.length_take]; omega
  rw [closedB_eq] at c
  refine ⟨⟨t.rz, by rw [hl, hS]; exact Nat.le_refl _, t.agr, t.keep, fun i h1 h2 => absurd h2 (by omega)⟩, ⟨fun i j hi hj => R.inj i j (by omega) (by omega), fun i hi => R.nrz i (by omega), R.trk, fun i o e => ?_⟩⟩
  have hi : i < n := by
    have := (List.getElem?_eq_some_iff.mp e).1
    omega
  have e1 : S1[i]? = some o := by rw [List.getElem?_take_of_lt hi] at e; exact e
  have r := R.at_ i o e1
  have b : boxB n o = true := List.all_eq_true.mp c o (List.mem_of_getElem? e)
  cases o with
  | lst xs => obtain ⟨ys, h1, h2⟩ := r; exact ⟨ys, h1, h2.less⟩
  | box xs => obtain ⟨ys, h1, h2⟩ := r; exact ⟨ys, h1, RelDs.less hn b h2⟩
  | dT kvs => obtain ⟨ys, h1, h2⟩ := r; exact ⟨ys, h1, h2.less⟩
  | dK kvs => obtain ⟨ys, h1, h2⟩ := r; exact ⟨ys, h1, h2.less⟩
theorem hand_back {n : Nat} {v w : DV} {u : V} (hn : n ≤ S1.length) (R : Rep z' S1 H') (h : handBack n S1 v = some w) (r : RelD z' S1 H' v u) : RelD z' (S1.take n) H' w u := by
  cases v with
  | d x =>
    cases h
    exact RelP.less (show RelP H' (Live z' S1) x u from r)
  | ref i =>
    unfold handBack at h
    dsimp only at h
    by_cases hi : i < n
    · rw [if_pos hi] at h
      cases h
      exact ⟨by rw [List.length_take]; omega, r.2⟩
    · rw [if_neg hi] at h
      cases q : S1[i]? with
      | none => rw [q] at h; cases h
      | some o =>
        rw [q] at h
        cases o with
        | lst xs =>
          cases h
          obtain ⟨ys, h1, h2⟩ := R.at_ i _ q
          refine ⟨z'.ρ i, ys, r.2, ?_, .inl h1, h2.less⟩
          rintro (q1 | ⟨j, hj, e⟩)
          · exact R.nrz i r.1 q1
          · rw [List.length_take] at hj
            have := R.inj j i (by omega) r.1 e
            omega
        | box _ => cases h
        | dT _ => cases h
        | dK _ => cases h
end
theorem relDs_loc {z : Z} {S : Sto} {H : Hp} {ns : Nat} {N : List Str} {args : List DV} {vs : List V} (r : RelDs z S H args vs) (hns : ns = N.length) : RelL z S H (args.map some ++ List.replicate (ns - args.length) none) (L2.start N vs) := by
  have hl := RelDs.length r
  refine ⟨?_, fun i v e => ?_⟩
  · unfold L2.start
    rw [List.length_append, List.length_map, List.length_replicate, List.length_append, List.length_map, List.length_replicate, hl, hns]
  · have e1 : (args.map some ++ List.replicate (ns - args.length) none)[i]? = some (some v) := by
      unfold getV at e
      split at e
      · rename_i q; cases e; exact q
      · cases e
    by_cases hi : i < args.length
    · rw [List.getElem?_append_left (by rw [List.length_map]; exact hi), List.getElem?_map] at e1
      cases q : args[i]? with
      | none => rw [q] at e1; cases e1
      | some w =>
        rw [q] at e1
        cases e1
        obtain ⟨u, hu, ru⟩ := RelDs.get r q
        refine ⟨u, ?_, ru⟩
        unfold L2.start
        rw [List.getElem?_append_left (by rw [List.length_map]; omega), List.getElem?_map, hu]
        rfl
    · rw [List.getElem?_append_right (by rw [List.length_map]; omega), List.getElem?_replicate] at e1
      split at e1
      · cases e1
      · cases e1
/-- what the caller is told of -/
structure Told (mg : Str → Option Value) (z : Z) (S : Sto) (H : Hp) (r : Res DV) (Q : VK) (E : XK) : Prop where
  ok : ∀ v S', r = .ok v S' → ∀ z' H' u, Tr z S H z' S' H' → Rep z' S' H' → RelD z' S' H' v u → Q u H'
  er : ∀ c x S', r = .err c x S' → ∀ z' H' cls d, Tr z S H z' S' H' → Rep z' S' H' → RelX mg z' S' H' c x cls d → E cls d H'
  un : r ≠ .stuck
theorem told_of {mg : Str → Option Value} {z : Z} {S : Sto} {H : Hp} {r : Res DV} {Q : VK} {E : XK} (h : match r with
  | .ok v S' => ∀ z' H' u, Tr z S H z' S' H' → Rep z' S' H' → RelD z' S' H' v u → Q u H'
  | .err c x S' => ∀ z' H' cls d, Tr z S H z' S' H' → Rep z' S' H' → RelX mg z' S' H' c x cls d → E cls d H'
  | .stuck => False) : Told mg z S H r Q E := by
  cases r with
  | ok v S' => exact ⟨fun _ _ e => (by cases e; exact h), fun _ _ _ e => (by cases e), fun e => (by cases e)⟩
  | err c x S' => exact ⟨fun _ _ e => (by cases e), fun _ _ _ e => (by cases e; exact h), fun e => (by cases e)⟩
  | stuck => exact h.elim
/-- what W says of a function's body -/
def WF (mg : Str → Option Value) (E : XK) : WS := fun c x _ z' S' H' => ∀ cls d, RelX mg z' S' H' c x cls d → E cls d H'
/-- from the body's end to the call's -/
theorem body_post {mg : Str → Option Value} {T : String → Option Fn} {wn d : Nat} {key : String} {fn : Fn} {z : Z} {S : Sto} {H : Hp} {Q : VK} {E : XK} {args : List DV} (hT : T key = some fn) (hl : args.length = fn.np) (h : Told mg z S H (callF T wn (d + 1) key args S) Q E) :
    PostS (WF mg E) z S H (evalSs (callF T wn d) wn fn.body (startL fn args) S) { nx := fun _ H' => Q .non H', rt := Q } := by
  have e0 := callF_eq (wn := wn) (d := d) (S := S) hT hl
  revert e0
  cases evalSs (callF T wn d) wn fn.body (startL fn args) S with
  | ret v S1 =>
    intro e0 z' H' u t R r
    unfold outF at e0
    dsimp only at e0
    by_cases k : fn.keep = true
    · rw [if_pos k] at e0
      exact h.ok _ _ e0 z' H' u t R r
    · rw [if_neg k] at e0
      by_cases c : closedB S.length (S1.take S.length) = true
      · rw [if_pos c] at e0
        cases q : handBack S.length S1 v with
        | none => rw [q] at e0; exact (h.un e0).elim
        | some w =>
          rw [q] at e0
          obtain ⟨t', R'⟩ := trunc rfl t R c
          exact h.ok _ _ e0 z' H' u t' R' (hand_back t.len R q r)
      · rw [if_neg c] at e0; exact (h.un e0).elim
  | next l1 S1 =>
    intro e0 z' H' σ' t R r
    unfold outF at e0
    dsimp only at e0
    by_cases c : closedB S.length (S1.take S.length) = true
    · rw [if_pos c] at e0
      obtain ⟨t', R'⟩ := trunc rfl t R c
      exact h.ok _ _ e0 z' H' .non t' R' rD_n
    · rw [if_neg c] at e0; exact (h.un e0).elim
  | err c x l1 S1 =>
    intro e0 z' H' t R cls dd rx
    unfold outF at e0
    dsimp only at e0
    by_cases cl : closedB S.length (S1.take S.length) = true
    · rw [if_pos cl] at e0
      obtain ⟨t', R'⟩ := trunc rfl t R cl
      obtain ⟨Ca, D, v, e1, e2, e3, e4, rv⟩ := rx
      exact h.er _ _ _ e0 z' H' cls dd t' R' ⟨Ca, D, v, e1, e2, e3, e4, RelD.less t.len rfl rv⟩
    · rw [if_neg cl] at e0; exact (h.un e0).elim
  | brk _ _ => exact fun e0 => (h.un e0).elim
  | cnt _ _ => exact fun e0 => (h.un e0).elim
  | stuck => exact fun e0 => (h.un e0).elim
/-- the body's context is good -/
theorem good_body {P : Program} {w : World} {K : PySem.W.Frag} {mg : Str → Option Value} {base : Heap} {N : List Str} {qual : Str} {scope : Scope} {f : Addr} {cdv : Value} {A : Around} {outer : List Env} {s : Shared} {H : Hp} {E : XK} {d : Nat} (hr : Room (d + 1) A) (hg : A.guards = some []) (hN : N.Nodup) :
    Good (cxOf (L2.CX P w) P w K mg base N qual scope f cdv A outer s H E) (WF mg E) d :=
  ⟨hN, rfl, hr.deeper _, hg, (takes_of rfl rfl rfl rfl).imp fun cls dd σ H' ⟨c, x, l, z, S, hl, R, rx, h⟩ => h cls dd rx, passes_of rfl⟩
/-- THE RULE: a function's body does what the table's term does -/
theorem fn_ev {P : Program} {w : World} {K : PySem.W.Frag} {mg : Str → Option Value} {base : Heap} {x qual : Str} {params : Arguments} {body : List Stmt} {scope : Scope} {dvs : List V} {kws : List (Str × V)} {f : Addr} {fd : FuncData}
    {N ps : List Str} {T : String → Option Fn} {wn d k : Nat} {key : String} {fn : Fn} (F : FunD K x qual params body scope dvs kws f fd) (Sc : FnScope N ps scope) (hT : T key = some fn) (hnp : fn.np = ps.length) (hns : fn.ns = N.length)
    (hbody : ∀ (cdv : Value) (A : Around) (outer : List Env) (s : Shared) (H : Hp) (E : XK), Good (cxOf (L2.CX P w) P w K mg base N qual scope f cdv A outer s H E) (WF mg E) k →
      PSs (cxOf (L2.CX P w) P w K mg base N qual scope f cdv A outer s H E) body (rdSs (callF T wn d) wn (WF mg E) fn.body)) :
    FnOkG P w K mg base (k + 1) f fd ps (spEv mg ps.length (callF T wn (d + 1)) key) := by
  obtain ⟨oc, od, dV, kV, doc, pm, an, cdv, ct, osl, rfl, inK, code, -, -⟩ := F.ex
  refine ⟨fun vs H Q E h => h.1, fun A outer s H args us vs Q E room gd env bnd vals sp => ?_⟩
  obtain ⟨lenV, z, S, da, rd, R, told⟩ := sp
  have told := told_of told
  have lenA : da.length = fn.np := (RelDs.length rd).trans (lenV.trans hnp.symm)
  have KIn : K.In s.heap := env.mod.kin.keeps fun b o e => (env.bs b o e).1
  refine codeAny_call_function room.depth (KIn _ _ inK) rfl Sc.co Sc.gen rfl (PySem.W.codeRec_of KIn code) (bnd _ _ _ _ ?_)
  refine wpAny_newFunctionEnv_cells Sc.kind (fun p hp => ?_) fun env' eqE s1 fresh => ?_
  · obtain ⟨n, v⟩ := p
    exact (Sc.par n (List.of_mem_zip hp).1).imp id fun q => ⟨q, PySem.W.cellsFrom_some _ _ _ (.inl q)⟩
  subst eqE
  have nolim : s.heap.NoLimit := env.mod.nolimit.keeps fun b o e => (env.bs b o e).1
  refine ⟨nolim.keeps fresh.toInCall.keep, codeAny_func ?_⟩
  have inv := inv_start (CX := L2.CX P w) (E := E) Sc room.hd env lenV vals fresh
  have run := (hbody cdv A outer s H E (good_body room gd Sc.nd)).run [] s1 (L2.start N vs) H { nx := fun _ H' => Q .non H', rt := Q } inv
    ⟨z, startL fn da, S, relDs_loc rd hns, R, body_post hT lenA told⟩
  have done : ∀ {σ' : L2.St} {H' : Hp} {s' : Shared} {v : V} {u : Value}, Inv (cxOf (L2.CX P w) P w K mg base N qual scope f cdv A outer s H E) [] σ' H' s' → RelV v u → Q v H' → CE outer P w H s Q u s' :=
    fun {_ H' _ v _} J rv q => ⟨v, H', J.os, J.bare, J.base, J.hok, rv, q⟩
  refine wpAny_mono run (fun fl s' end_ => ?_) fun e s' raised => raised
  cases fl with
  | next => exact end_.elim fun σ' q => q.elim fun H' q => done (v := .non) (u := .none) q.1 rfl q.2
  | ret u => exact end_.elim fun v q => q.elim fun σ' q => q.elim fun H' q => done q.1 q.2.1 q.2.2
  | brk => exact (end_.elim fun _ q => q.elim fun _ q => q.2).elim
  | cont => exact (end_.elim fun _ q => q.elim fun _ q => q.2).elim
end Ev
end
section
set_option maxRecDepth 100000
set_option maxHeartbeats 4000000
/-! EvT1: sorted. -/
namespace Ev
open PySem PySem.Spec PyProof.Rows L2
open PySem.W (EachIs AllAlike dataLe alike)
/-- values that stand for data, one by one -/
def Std (H : Hp) (L : Addr → Prop) (u : Value) (d : PyData) : Prop := ∃ x : V, RelV x u ∧ RelP H L d x
theorem std_of {H : Hp} {L : Addr → Prop} : ∀ {ds : List PyData} {xs : List V} {us : List Value}, RelPs H L ds xs → Vals xs us → EachIs (Std H L) us ds
  | [], xs, us, r, v => by
    unfold RelPs at r
    subst r
    cases v
    exact .nil
  | d :: ds, xs, us, r, v => by
    obtain ⟨y, t, rfl, r1, r2⟩ := r
    cases v with
    | cons h1 h2 => exact .cons ⟨y, h1, r1⟩ (std_of r2 h2)
theorem of_std {H : Hp} {L : Addr → Prop} : ∀ {ds : List PyData} {us : List Value}, EachIs (Std H L) us ds → ∃ xs, RelPs H L ds xs ∧ Vals xs us
  | [], _, h => by cases h; exact ⟨[], RelPs.nil, .nil⟩
  | d :: ds, _, h => by
    cases h with
    | cons h1 h2 =>
      obtain ⟨x, rv, r⟩ := h1
      obtain ⟨xs, r2, v2⟩ := of_std h2
      exact ⟨x :: xs, RelPs.cons r r2, .cons rv v2⟩
theorem sort_alike {ks : List PyData} (h : sortOk ks = true) : AllAlike ks := by
  unfold sortOk at h
  rw [Bool.and_eq_true, Bool.and_eq_true, List.all_eq_true] at h
  exact fun d hd d' hd' => List.all_eq_true.mp (h.1.1 d hd) d' hd'
theorem sort_able {ks : List PyData} (h : sortOk ks = true) : PySem.W.Sortable ks := by
  unfold sortOk at h
  rw [Bool.and_eq_true, Bool.and_eq_true, Bool.or_eq_true] at h
  rcases h.1.2 with h | h
  · refine .inl fun d hd => ?_
    have := List.all_eq_true.mp h d hd
    cases d with
    | tuple xs =>
      cases xs with
      | nil => cases this
      | cons x r => exact ⟨x, r, rfl⟩
    | _ => cases this
  · refine .inr fun d hd => ?_
    have := List.all_eq_true.mp h d hd
    cases d with
    | tuple xs => cases this
    | none => cases this
    | _ => exact ⟨fun e => (by cases e), fun _ e => (by cases e)⟩
theorem sort_deep {ks : List PyData} (h : sortOk ks = true) {d : PyData} (hd : d ∈ ks) : d.depth ≤ 8 := by
  unfold sortOk at h
  rw [Bool.and_eq_true, List.all_eq_true] at h
  exact of_decide_eq_true (h.2 d hd)
/-- sorted(..) of a list or a tuple: list.sort of a new list -/
theorem sorted_seq {prog : Program} {w : World} {A : Around} {E : Value → Shared → Prop} {s : Shared} {l : Addr} {T : String} {o : Obj} {its : List Value} {n : Nat} {kw : List (Str × Value)} {Q : Value → Shared → Prop} (hT : T = "list" ∨ T = "tuple") (ho : s.heap.get? l = some o) (hc : o.cls = .type T) (hd : o.data = .seq its.toArray n)
    (hz : its.length ≤ sizeLine) (ha1 : argsOk "sorted" ⟨[.ref l], kw⟩)
    (body : ∀ (h' : Heap) (E' : Value → Shared → Prop), (∀ b ob, s.heap.get? b = some ob → h'.get? b = some ob) → wpAny (model prog w) A.in1 (call (.builtin "list.sort") [.ref h'.objs.size] kw) (fun _ s' => Q (.ref h'.objs.size) s') E' { s with heap := h'.push (seqObj "list" its.toArray 0) }) :
    wpAny (model prog w) A (call (.builtin "sorted") [.ref l] kw) Q E s := by
  refine call_function_entry_kw kind_sorted plain_sorted entry_sorted ha1 ?_
  unfold Builtin.«sorted»
  refine wpAny_bind (m := checkCount "sorted" 1 1 _) (wpAny_pure ?_)
  refine wpAny_bind (wpAny_collect_seq l hT ho hc hd (fun h' keep => ?_) (by rw [List.size_toArray]; exact hz))
  refine wpAny_bind (wpAny_newList ?_ (by simpa using hz))
  exact wpAny_bind (wpAny_holding (wpAny_mono (body h' _ keep) (fun _ s' x => wpAny_pure ⟨_, rfl, x⟩) fun _ _ e => e))
mutual
/-- what is read off stands there -/
theorem reads_in {h : Heap} {b : Addr} : ∀ {v : Value} {d : PyData} {as : List Addr}, Reads h v d as → b ∈ as → ∃ o, h.get? b = some o
  | _, _, _, .none, m => by cases m
  | _, _, _, .bool _, m => by cases m
  | _, _, _, .int _ _, m => by cases m
  | _, _, _, .str _ _, m => by cases m
  | _, _, _, .list h1 _ _ r, m => by
    rcases List.mem_cons.mp m with e | m
    · subst e; exact ⟨_, h1⟩
    · exact readsAll_in r m
  | _, _, _, .tuple _ _ _ r, m => readsAll_in r m
  | _, _, _, .dict h1 _ _ r1 r2, m => by
    rcases List.mem_append.mp m with m | m
    · rcases List.mem_cons.mp m with e | m
      · subst e; exact ⟨_, h1⟩
      · exact readsAll_in r1 m
    · exact readsAll_in r2 m
theorem readsAll_in {h : Heap} {b : Addr} : ∀ {v : List Value} {d : List PyData} {as : List Addr}, ReadsAll h v d as → b ∈ as → ∃ o, h.get? b = some o
  | _, _, _, .nil, m => by cases m
  | _, _, _, .cons r1 r2, m => by
    rcases List.mem_append.mp m with m | m
    · exact reads_in r1 m
    · exact readsAll_in r2 m
end
def rSrt (K : PySem.W.Frag) : List V → Hp → VK → Prop := fun vs H Q => ∃ (a : Addr) (xs : List V) (ds : List PyData) (L : Addr → Prop), vs = [V.ref a] ∧ (SqL K H a xs ∨ SqT K H a xs) ∧ RelPs H L ds xs ∧ sortOk ds = true ∧
  ∀ ys p, RelPs H L (ds.mergeSort (dataLe false id)) ys → H p = none → Q (.ref p) (upd H p (.lst ys))
/-- the items of a list or a tuple -/
theorem seq_obj {X : Cx} {pins : List (Addr × Obj)} {σ : L2.St} {H : Hp} {s : Shared} {a : Addr} {xs : List V} (I : L2.Inv X pins σ H s) (h : SqL X.K H a xs ∨ SqT X.K H a xs) :
    ∃ (its : List Value) (T : String) (o : Obj) (n : Nat), Vals xs its ∧ (T = "list" ∨ T = "tuple") ∧ s.heap.get? a = some o ∧ o.cls = .type T ∧ o.data = .seq its.toArray n ∧ xs.length ≤ sizeLine := by
  rcases h with h | h
  · obtain ⟨its, rv, pl, hz⟩ := I.list h
    obtain ⟨o, ho, hc, n, hd⟩ := pl.isList
    exact ⟨its, "list", o, n, rv, .inl rfl, ho, hc, hd, hz⟩
  · obtain ⟨its, rv, ⟨o, ho, hc, n, hd⟩, hz⟩ := I.tuple h
    exact ⟨its, "tuple", o, n, rv, .inr rfl, ho, hc, hd, hz⟩
theorem cr_srt {X : Cx} (hu : X.A.units + 64 < cLine) : CallR X (.builtin "sorted") (rSrt X.K) := by
  intro pins s σ H vs us Q I r h
  obtain ⟨a, xs, ds, L, rfl, hs, rr, ok, q⟩ := h
  obtain ⟨its, T, o, n, rv, hT, ho, hc, hd, hz⟩ := seq_obj I hs
  rw [Vals.ref1 r]
  have hzi : its.length ≤ sizeLine := by rw [← rv.length]; exact hz
  have hdl : ds.length = its.length := by rw [rr.length, rv.length]
  obtain ⟨as, rds⟩ := Dp.readsAll I ds xs its (dps_of ds xs rr) rv
  have er0 : EachIs (fun v b => ∃ as, Reads s.heap v (id b) as) its ds := PySem.W.readsAll_each id (by rw [List.map_id]; exact rds)
  refine sorted_seq hT ho hc hd hzi (PyProof.Rows.args_sorted1 _) fun h' E' keep => ?_
  have I' : L2.Inv X pins σ H { s with heap := h' } := I.kept (t' := s.toks) keep
  have hob : (h'.push (seqObj "list" its.toArray 0)).get? h'.objs.size = some (seqObj "list" its.toArray 0) := Heap.get?_push_size _ rfl
  have er : EachIs (fun v b => ∃ as, Reads (h'.push (seqObj "list" its.toArray 0)) v (id b) as ∧ h'.objs.size ∉ as) its ds := er0.mono fun v b ⟨as, r⟩ =>
    ⟨as, PyProof.Rows.Reads.keeps (fun b ob e => Heap.get?_push_of_some _ (keep b ob e)) r, fun m => by
      obtain ⟨o, e⟩ := reads_in r m
      exact Nat.lt_irrefl _ (Heap.lt_size (keep _ _ e))⟩
  refine PySem.W.list_sort_data (A := X.A.in1) (s := { s with heap := h'.push (seqObj "list" its.toArray 0) }) (Q := fun _ s' => EP X pins σ Q (.ref h'.objs.size) s') (enc := id) (R := Std H L) hob (std_of rr rv) er
    (by rw [List.map_id]; exact sort_alike ok) (by rw [List.map_id]; exact sort_able ok) (by rw [hdl]; exact hzi) (fun b hb => by have := sort_deep ok hb; have e1 : X.A.in1.units = X.A.units + 1 := rfl; show X.A.in1.units + 1 + b.depth < cLine; omega) fun out hlen he => ?_
  obtain ⟨ys, ry, vy⟩ := of_std he
  obtain ⟨e2, he2⟩ := PyProof.Rows.sortedHeap_at (vs := its) (out := List.toArray out) hob
  refine ⟨.ref _, upd H h'.objs.size (.lst ys), I'.laid (t' := s.toks) (fun b ob e => ?_) (Nat.le_refl _) ⟨by rw [vy.length, hlen, hdl]; exact hzi, out, e2, vy, he2⟩, rfl, q ys _ ry (I'.hok.fresh (Nat.le_refl _))⟩
  have hlt : b < h'.objs.size := Heap.lt_size e
  exact (PyProof.Rows.sortedHeap_old (Nat.ne_of_lt hlt) (by rw [size_push']; exact Nat.lt_succ_of_lt hlt)).trans (Heap.get?_push_of_some _ e)
theorem kSrt {K : PySem.W.Frag} (m : Bool) : BiOk (.sorted m) (rSrt K) := by
  intro W l z S H vs us Q R rs h
  obtain ⟨v, u, rfl, rfl, r, h⟩ := on1_ok (α := Unit) rs h
  cases ex : seqV S v with
  | none => rw [ex] at h; exact h.elim
  | some xs =>
    rw [ex] at h
    obtain ⟨a, ys, rfl, rr, dd⟩ := seqV_rel R ex r
    have h : Post W l z S H (bNew m (sortedP xs) S) _ := h
    unfold sortedP at h
    by_cases c : sortOk xs = true ∧ xs.length ≤ LIM
    · rw [if_pos c] at h
      refine ⟨a, ys, xs, _, rfl, dd.elim (fun q => .inl (.inl q)) (fun q => .inr (.inl q.1)), rr, c.1, fun zs p rz hp => ?_⟩
      obtain ⟨w, z', S', k1, r1⟩ := new_list R hp rz h
      exact k1 _ r1
    · rw [if_neg c] at h; exact h.elim
end Ev
end
section
set_option maxRecDepth 100000
set_option maxHeartbeats 4000000
/-! EvT2: dicts whose keys are tuples of ints; items stored. -/
namespace Ev
open PySem PySem.Spec PyProof.Rows L2
theorem fT_inj : ∀ {a b : List Int}, fT a = fT b → a = b
  | [], [], _ => rfl
  | [], _ :: _, h => by cases h
  | _ :: _, [], h => by cases h
  | x :: a, y :: b, h => by
    unfold fT at h
    rw [List.map_cons, List.map_cons] at h
    obtain ⟨h1, h2⟩ := List.cons.inj h
    rw [Sum.inl.inj h1, fT_inj (a := a) (b := b) h2]
section
variable {H : Hp} {L : Addr → Prop}
theorem RelKs.length : ∀ {xs : List (List Int × PyData)} {ys : List (List Key × V)}, RelKs fT H L xs ys → xs.length = ys.length
  | [], _, h => by
    unfold RelKs at h
    subst h
    rfl
  | _ :: _, _, ⟨y, r, e, _, t⟩ => by
    subst e
    rw [List.length_cons, List.length_cons, RelKs.length t]
theorem RelKs.find {k : List Int} : ∀ {xs : List (List Int × PyData)} {ys : List (List Key × V)}, RelKs fT H L xs ys → (lookT xs k).isSome = (valV ys (fT k)).isSome
  | [], _, h => by
    unfold RelKs at h
    subst h
    rfl
  | p :: xs, _, ⟨y, r, e, h1, t⟩ => by
    subst e
    have ih := RelKs.find (k := k) t
    by_cases c : p.1 = k
    · rw [valV_pos (by rw [c])]
      unfold lookT
      rw [List.find?_cons_of_pos (by simp [c])]
      rfl
    · rw [valV_neg (fun q => c (fT_inj q)), ← ih]
      unfold lookT
      rw [List.find?_cons_of_neg (by simp [c])]
theorem RelKs.anyK {k : List Int} : ∀ {xs : List (List Int × PyData)} {ys : List (List Key × V)}, RelKs fT H L xs ys → (xs.any fun kv => decide (kv.1 = k)) = (ys.any fun kv => decide (kv.1 = fT k))
  | [], _, h => by
    unfold RelKs at h
    subst h
    rfl
  | p :: xs, _, ⟨y, r, e, h1, t⟩ => by
    subst e
    rw [List.any_cons, List.any_cons, RelKs.anyK t]
    congr 1
    exact decide_eq_decide.mpr ⟨fun q => by rw [q], fun q => fT_inj q⟩
theorem RelKs.mapK {k : List Int} {x : PyData} {u : V} (hx : RelP H L x u) : ∀ {xs : List (List Int × PyData)} {ys : List (List Key × V)}, RelKs fT H L xs ys →
    RelKs fT H L (xs.map fun kv => if kv.1 = k then (kv.1, x) else kv) (ys.map fun kv => if kv.1 = fT k then (kv.1, u) else kv)
  | [], _, h => by
    unfold RelKs at h
    subst h
    rfl
  | p :: xs, _, ⟨y, r, e, h1, t⟩ => by
    subst e
    rw [List.map_cons, List.map_cons]
    by_cases c : p.1 = k
    · rw [if_pos c, if_pos (by rw [c])]
      exact ⟨u, _, rfl, hx, RelKs.mapK hx t⟩
    · rw [if_neg c, if_neg fun q => c (fT_inj q)]
      exact ⟨y, _, rfl, h1, RelKs.mapK hx t⟩
theorem RelKs.snoc {k : List Int} {x : PyData} {u : V} (hx : RelP H L x u) : ∀ {xs : List (List Int × PyData)} {ys : List (List Key × V)}, RelKs fT H L xs ys → RelKs fT H L (xs ++ [(k, x)]) (ys ++ [(fT k, u)])
  | [], _, h => by
    unfold RelKs at h
    subst h
    exact ⟨u, [], rfl, hx, rfl⟩
  | p :: xs, _, ⟨y, r, e, h1, t⟩ => by
    subst e
    exact ⟨y, _, rfl, h1, RelKs.snoc hx t⟩
theorem RelKs.put {k : List Int} {x : PyData} {u : V} {xs : List (List Int × PyData)} {ys : List (List Key × V)} (hx : RelP H L x u) (h : RelKs fT H L xs ys) : RelKs fT H L (putT xs k x) (putK ys (fT k) u) := by
  unfold putT putK
  rw [RelKs.anyK h]
  by_cases c : (ys.any fun kv => decide (kv.1 = fT k)) = true
  · rw [if_pos c, if_pos c]; exact RelKs.mapK hx h
  · rw [if_neg c, if_neg c]; exact RelKs.snoc hx h
theorem RelKs.vals : ∀ {xs : List (List Int × PyData)} {ys : List (List Key × V)}, RelKs fT H L xs ys → RelPs H L (xs.map (·.2)) (ys.map (·.2))
  | [], _, h => by
    unfold RelKs at h
    subst h
    exact RelPs.nil
  | p :: xs, _, ⟨y, r, e, h1, t⟩ => by
    subst e
    exact RelPs.cons h1 (RelKs.vals t)
theorem ints_key : ∀ {ks : List PyData} {k : List Int} {ys : List V}, intsOf ks = some k → RelPs H L ks ys → ys = (fT k).map kV
  | [], k, ys, e, r => by
    cases e
    unfold RelPs at r
    subst r
    rfl
  | x :: ks, k, ys, e, r => by
    cases x with
    | int i =>
      unfold intsOf at e
      cases q : intsOf ks with
      | none => rw [q] at e; cases e
      | some k' =>
        rw [q] at e
        cases e
        obtain ⟨y, t, rfl, r1, r2⟩ := r
        unfold RelP at r1
        subst r1
        rw [ints_key q r2]
        rfl
    | _ => cases e
end
theorem key_rel {z : Z} {S : Sto} {H : Hp} {ks : List PyData} {k : List Int} {y : V} (e : intsOf ks = some k) (r : RelP H (Live z S) (.tuple ks) y) : ∃ b, y = .ref b ∧ H b = some (.tup ((fT k).map kV)) := by
  unfold RelP at r
  obtain ⟨a, ys, e1, _, h, rr⟩ := r
  rw [ints_key e rr] at h
  exact ⟨a, e1, h⟩
section
variable {X : Cx} {W : WS} {C : Calls} {n : Nat} {a b c d e o i value : Expr} {ma mb mc md mo mi mv : ME} {pos pos' : Pos}
theorem e_dict0 : PE X (.Dict [] [] pos) (rdE C W .dict0) := PE.imp pe_dnewT fun σ H Q ⟨z, l, S, hl, R, h⟩ => by
  intro p hp
  unfold evalE at h
  obtain ⟨t, R'⟩ := rep_put (o := .dT []) (ho := .dT []) R hp fun t => ⟨[], upd_same, rfl⟩
  exact h _ _ t R' _ ⟨by simp, by rw [put_new]⟩
theorem dict_at {z : Z} {S : Sto} {H : Hp} {y : DV} {u : V} {kvs : List (List Int × PyData)} (R : Rep z S H) (h : dictAt S y = some kvs) (r : RelD z S H y u) : ∃ i ys, y = .ref i ∧ S[i]? = some (.dT kvs) ∧ u = .ref (z.ρ i) ∧ H (z.ρ i) = some (.dT ys) ∧ RelKs fT H (Live z S) kvs ys := by
  cases y with
  | d _ => cases h
  | ref j =>
    unfold dictAt at h
    dsimp only at h
    split at h
    · rename_i kvs' q
      cases h
      obtain ⟨ys, h1, h2⟩ := R.at_ j _ q
      exact ⟨j, ys, rfl, q, r.2, h1, h2⟩
    · cases h
theorem in_ok {neg : Bool} {z : Z} {S : Sto} {H : Hp} {l : Loc} {x y : DV} {u v : V} {Q : VK} (R : Rep z S H) (rx : RelD z S H x u) (ry : RelD z S H y v)
    (h : Post W l z S H (ofO ((dictAt S y).bind fun kvs => (asP S x).bind fun p => (keyT p).map fun k => DV.d (.bool (if neg then (lookT kvs k).isNone else (lookT kvs k).isSome))) S) (fun v z' S' H' => ∀ u, RelD z' S' H' v u → Q u H')) :
    ∃ a ov, v = .ref a ∧ DGet H a u ov ∧ Q (.bl (if neg then !ov.isSome else ov.isSome)) H := by
  obtain ⟨w, e, q⟩ := Post.ofO R h
  cases e1 : dictAt S y with
  | none => rw [e1] at e; cases e
  | some kvs =>
    rw [e1] at e
    cases e2 : asP S x with
    | none => rw [e2] at e; cases e
    | some p =>
      rw [e2] at e
      cases p with
      | tuple ks =>
        cases e3 : intsOf ks with
        | none =>
          have e : Option.map (fun k => DV.d (.bool (if neg then (lookT kvs k).isNone else (lookT kvs k).isSome))) (intsOf ks) = some w := e
          rw [e3] at e
          cases e
        | some k =>
          have e : some (DV.d (.bool (if neg then (lookT kvs k).isNone else (lookT kvs k).isSome))) = some w := by
            rw [← e]
            show _ = (Option.map _ (intsOf ks))
            rw [e3]
            rfl
          cases e
          obtain ⟨j, ys, rfl, _, rfl, hH, rk⟩ := dict_at R e1 ry
          obtain ⟨a, zs, rfl, _, rr, rp⟩ := rel_tup e2 rx
          obtain ⟨b, eb, hb⟩ := key_rel e3 rp
          cases eb
          refine ⟨_, _, rfl, DGet.t hH hb, ?_⟩
          have f := RelKs.find (k := k) rk
          have : (if neg = true then !(valV ys (fT k)).isSome else (valV ys (fT k)).isSome) = (if neg = true then (lookT kvs k).isNone else (lookT kvs k).isSome) := by
            rw [← f]
            cases neg <;> cases lookT kvs k <;> rfl
          rw [this]
          exact q _ (by show RelP _ _ _ _; unfold RelP; rfl)
      | _ => cases e
theorem e_in (hu : X.A.units + 1 < cLine) (ha : PE X a (rdE C W ma)) (hb : PE X b (rdE C W mb)) (hm : behindInMarks .In b = false := by rfl) : PE X (.Compare a [.In] [b] pos) (rdE C W (.inD false ma mb)) :=
  PE.imp (pe_cmp (pc_din hu ha hb) hm) fun σ H Q ⟨z, l, S, hl, R, h⟩ => by
    unfold evalE at h
    refine seqE hl R h fun u H1 z1 S1 x a1 rx => ?_
    refine seqE a1.L a1.R a1.h fun v H2 z2 S2 y a2 ry => ?_
    exact in_ok a2.R (rx.tr a2.t) ry a2.h
theorem e_notin (hu : X.A.units + 1 < cLine) (ha : PE X a (rdE C W ma)) (hb : PE X b (rdE C W mb)) (hm : behindInMarks .NotIn b = false := by rfl) : PE X (.Compare a [.NotIn] [b] pos) (rdE C W (.inD true ma mb)) :=
  PE.imp (pe_cmp (pc_dnotin hu ha hb) hm) fun σ H Q ⟨z, l, S, hl, R, h⟩ => by
    unfold evalE at h
    refine seqE hl R h fun u H1 z1 S1 x a1 rx => ?_
    refine seqE a1.L a1.R a1.h fun v H2 z2 S2 y a2 ry => ?_
    exact in_ok a2.R (rx.tr a2.t) ry a2.h
end
/-! ### o[i] = v -/
def rSetA : TSet := fun o i v H Q => rSetL o i v H Q ∨ rSetD o i v H Q
theorem set_any {X : Cx} (hu : X.A.units + 1 < cLine) : PSet X rSetA := by
  intro pins s σ H o i v ov iv u Q I ro ri rv h
  rcases h with h | h
  · exact set_list pins s σ H o i v ov iv u Q I ro ri rv h
  · exact set_dict hu pins s σ H o i v ov iv u Q I ro ri rv h
theorem put_ok {z : Z} {S S' : Sto} {H : Hp} {o k v : DV} {x y u : V} (R : Rep z S H) (ro : RelD z S H o x) (rk : RelD z S H k y) (rv : RelD z S H v u) (h : putIx S o k v = some S') : rSetA x y u H (fun H' => Tr z S H z S' H' ∧ Rep z S' H') := by
  cases o with
  | d _ => cases h
  | ref i =>
    obtain ⟨hi, rfl⟩ := ro
    cases k with
    | ref _ => cases h
    | d p =>
      cases p with
      | int j =>
        have ey : y = .int j := by
          have rk : RelP H (Live z S) (.int j) y := rk
          unfold RelP at rk
          exact rk
        subst ey
        have h : putInt S i j v = some S' := h
        unfold putInt at h
        split at h
        · rename_i xs q
          cases v with
          | ref _ => cases h
          | d x =>
            dsimp only at h
            cases e : ixN xs.length j with
            | none => rw [e] at h; cases h
            | some n =>
              rw [e] at h
              cases h
              obtain ⟨ys, h1, h2⟩ := R.at_ i _ q
              refine .inl ⟨_, ys, j, n, rfl, rfl, h1, by rw [← h2.length]; exact e, ?_⟩
              exact rep_set (ho' := .lst []) R hi fun t => ⟨_, upd_same, (h2.set rv n).tr t⟩
        · rename_i xs q
          cases e : ixN xs.length j with
          | none => rw [e] at h; cases h
          | some n =>
            rw [e] at h
            cases h
            obtain ⟨ys, h1, h2⟩ := R.at_ i _ q
            refine .inl ⟨_, ys, j, n, rfl, rfl, h1, by rw [← h2.length]; exact e, ?_⟩
            exact rep_set (ho' := .lst []) R hi fun t => ⟨_, upd_same, (h2.set rv n).tr t⟩
        · cases h
      | tuple ks =>
        have h : putTup S i ks v = some S' := h
        unfold putTup at h
        cases v with
        | ref _ => cases h
        | d x =>
          dsimp only at h
          split at h
          · rename_i kvs q
            by_cases c : kvs.length < LIM
            · rw [if_pos c] at h
              cases e : intsOf ks with
              | none => rw [e] at h; cases h
              | some k =>
                rw [e] at h
                cases h
                obtain ⟨b, rfl, hb⟩ := key_rel e (show RelP H (Live z S) (.tuple ks) y from rk)
                obtain ⟨ys, h1, h2⟩ := R.at_ i _ q
                refine .inr ⟨_, _, rfl, DPut.t h1 hb (by rw [← h2.length]; exact lim_lt c), ?_⟩
                exact rep_set (ho' := .lst []) R hi fun t => ⟨_, upd_same, (h2.put rv).tr t⟩
            · rw [if_neg c] at h; cases h
          · cases h
      | _ => cases h
section
variable {X : Cx} {W : WS} {C : Calls} {n : Nat} {o i value : Expr} {mo mi mv : ME} {pos pos' : Pos}
theorem s_setIx (hu : X.A.units + 1 < cLine) (hv : PE X value (rdE C W mv)) (ho : PE X o (rdE C W mo)) (hi : PE X i (rdE C W mi))
    (ha : ∀ v, assign (.Subscript o i pos') X.env v = (do
      let ov ← holding [v] (eval o X.env)
      let iv ← holding [v, ov] (eval i X.env)
      standAt pos'
      holding [v, ov, iv] (setItem ov iv v)
      release [v, ov, iv] []) := by intro _; rfl)
    (hs : swapsWithSole [.Subscript o i pos'] value pos.line X.env = pure false := by rfl) (hw : swappedStores [.Subscript o i pos'] value X.env = pure none := by rfl)
    (h1 : (assignEach [.Subscript o i pos'] X.env).map (·.2) = [assign (.Subscript o i pos') X.env] := by rfl) : PS X (.Assign [.Subscript o i pos'] value pos) (rdS C n W (.setIx mo mi mv)) :=
  PS.imp (ps_asg hv (pg_sub ho hi (set_any hu) ha) hs hw h1) fun D σ H ⟨z, l, S, hl, R, h⟩ => by
    unfold evalS at h
    refine seqES hl R h fun u H1 z1 S1 v a1 rv => ?_
    refine seqES a1.L a1.R a1.h fun x H2 z2 S2 o' a2 ro => ?_
    refine seqES a2.L a2.R a2.h fun y H3 z3 S3 k' a3 rk => ?_
    have h3 := a3.h
    cases e : putIx S3 o' k' v with
    | none => rw [e] at h3; exact h3.elim
    | some S4 =>
      rw [e] at h3
      rcases put_ok a3.R (ro.tr a3.t) rk ((rv.tr a2.t).tr a3.t) e with q | q
      · obtain ⟨p, xs, k, j, e1, e2, h1, h2, t, R'⟩ := q
        exact .inl ⟨p, xs, k, j, e1, e2, h1, h2, h3 _ _ _ t R' (a3.L.tr t)⟩
      · obtain ⟨a, H', e1, g, t, R'⟩ := q
        exact .inr ⟨a, H', e1, g, h3 _ _ _ t R' (a3.L.tr t)⟩
end
end Ev
end
section
set_option maxRecDepth 100000
set_option maxHeartbeats 4000000
/-! EvT3: the values of a dict sorted; more statements; comprehensions' blocks. -/
namespace Ev
open PySem PySem.Spec PyProof.Rows L2
open PySem.W (dataLe KdlSrc kdu_collect)
/-! ### sorted(d.values()) -/
/-- the view d.values() at p -/
def valsO (p d : Addr) : HO := .ext fun h => h.IsValuesView p d
theorem valsO_ok {P : Program} {w : World} {H : Hp} {h : Heap} {p d : Addr} (e : h.get? p = some { cls := .type "dict_values", data := .fields #[.ref d] }) : ObjOk P w H h p (valsO p d) :=
  ⟨⟨_, e, rfl, rfl⟩, ⟨_, e⟩, fun _ _ ⟨o, ho, r⟩ k => ⟨o, k o ho, r⟩⟩
def rVals : V → List V → Hp → VK → Prop := fun x xs H Q => ∃ (a : Addr) (kvs : List (List Key × V)), x = .ref a ∧ xs = [] ∧ H a = some (.dT kvs) ∧ ∀ p, H p = none → Q (.ref p) (upd H p (valsO p a))
theorem mt_vals {X : Cx} : MtR X "dict.values" rVals := by
  intro pins s σ H x xs v us Q I rx rxs h
  obtain ⟨a, kvs, rfl, rfl, ha, q⟩ := h
  cases rx
  cases rxs
  obtain ⟨z, hd, xs', rel, o, es, ep, ho, hx, hdat, _⟩ := dt_of I.hok ha
  have raw : s.heap.DictRaw a es ep := ⟨o, ho, hx, hdat⟩
  refine call_meetsIn PySem.F.slot_dict_values raw.typeIs PySem.F.entry_dict_values (PySem.F.args_dict_values_1 _) (meets_dict_values_raw a hd) ⟨⟨es, ep, raw⟩, ?_⟩
  exact ⟨.ref s.heap.objs.size, upd H s.heap.objs.size (valsO s.heap.objs.size a), I.laid (t' := s.toks) (fun b u e => Heap.get?_push_of_some _ e) (Nat.le_refl _) (valsO_ok (Heap.get?_push_size _ rfl)), rfl, q _ (I.hok.fresh (Nat.le_refl _))⟩
def rSrtV : List V → Hp → VK → Prop := fun vs H Q => ∃ (p a : Addr) (kvs : List (List Key × V)) (ds : List PyData) (L : Addr → Prop), vs = [V.ref p] ∧ H p = some (valsO p a) ∧ H a = some (.dT kvs) ∧ RelPs H L ds (kvs.map (·.2)) ∧ sortOk ds = true ∧
  ∀ ys q, RelPs H L (ds.mergeSort (dataLe false id)) ys → H q = none → Q (.ref q) (upd H q (.lst ys))
theorem vals_of_paired {H : Hp} : ∀ {kvs : List (List Key × V)} {xs : List (List Key × Addr × Value)}, KT H kvs xs → Vals (kvs.map (·.2)) (xs.map (·.2.2))
  | _, _, .nil => .nil
  | _, _, .cons h t => .cons h.2.2 (vals_of_paired t)
theorem cr_srtV {X : Cx} (hc : X.calm = true) (hu : X.A.units + 64 < cLine) : CallR X (.builtin "sorted") rSrtV := by
  intro pins s σ H vs us Q I r h
  obtain ⟨p, a, kvs, ds, L, rfl, hp, ha, rr, ok, q⟩ := h
  rw [Vals.ref1 r]
  have view : s.heap.IsValuesView p a := (show ObjOk X.prog X.w H s.heap p (valsO p a) from I.hok p _ hp).1
  obtain ⟨z, hd, xs', rel, o, es, ep, ho, hx, hdat, hes, _⟩ := dt_of I.hok ha
  have raw : s.heap.DictRaw a es ep := ⟨o, ho, hx, hdat⟩
  have rv := vals_of_paired rel
  have hsz : es.size = kvs.length := by
    rw [← Array.length_toList, hes, List.length_map]
    exact (Paired.length rel).symm
  have ev : es.toList.map (·.val) = xs'.map (·.2.2) := by
    rw [hes, List.map_map]
    rfl
  refine PySem.Calls.call_function_entry PyProof.Rows.kind_sorted PyProof.Rows.plain_sorted PyProof.Rows.entry_sorted (PyProof.Rows.args_sorted1 _) ?_
  unfold Builtin.«sorted»
  refine wpAny_bind (m := checkCount "sorted" 1 1 _) (wpAny_pure ?_)
  refine wpAny_bind (kdu_collect (A := X.A.in1) (KdlSrc.rawValues (r := p) (d := a) (es := es) (ep := ep)) (I.ok.hd hc) ⟨view, raw⟩ (by rw [hsz]; exact z) fun h' tk acc hk hacc => ?_)
  have hacc2 : acc.toList = xs'.map (·.2.2) := by
    rw [← ev]
    refine List.ext_getElem (by rw [Array.length_toList, List.length_map, Array.length_toList]; exact hacc.1) fun i h1 h2 => ?_
    have g := hacc.2 i (acc[i]'(by rw [Array.length_toList] at h1; exact h1)) (Array.getElem?_eq_getElem _)
    obtain ⟨hi, e⟩ := g
    rw [Array.getElem_toList, e, List.getElem_map, Array.getElem_toList]
  rw [hacc2]
  have hlen : (xs'.map (·.2.2)).length = kvs.length := by rw [List.length_map]; exact (Paired.length rel).symm
  refine wpAny_bind (wpAny_newList ?_ (by rw [hlen]; exact z))
  have hob : (h'.push { cls := .type "list", data := .seq (xs'.map (·.2.2)).toArray }).get? h'.objs.size = some (seqObj "list" (xs'.map (·.2.2)).toArray 0) := Heap.get?_push_size _ rfl
  have I1 : Inv X pins σ H { s with heap := h'.push { cls := .type "list", data := .seq (xs'.map (·.2.2)).toArray }, toks := tk } := I.kept (t' := tk) fun b ob e => Heap.get?_push_of_some _ (hk b ob e)
  have hdl : ds.length = kvs.length := by rw [rr.length, List.length_map]
  obtain ⟨as, rds⟩ := Dp.readsAll I ds _ _ (dps_of ds _ rr) rv
  have er0 : PySem.W.EachIs (fun v b => ∃ as, Reads s.heap v (id b) as) (xs'.map (·.2.2)) ds := PySem.W.readsAll_each id (by rw [List.map_id]; exact rds)
  have I' : Inv X pins σ H { s with heap := h', toks := tk } := I.kept (t' := tk) hk
  have er : PySem.W.EachIs (fun v b => ∃ as, Reads (h'.push { cls := .type "list", data := .seq (xs'.map (·.2.2)).toArray }) v (id b) as ∧ h'.objs.size ∉ as) (xs'.map (·.2.2)) ds := er0.mono fun v b ⟨as, r⟩ =>
    ⟨as, PyProof.Rows.Reads.keeps (fun b ob e => Heap.get?_push_of_some _ (hk b ob e)) r, fun m => by
      obtain ⟨o, e⟩ := reads_in r m
      exact Nat.lt_irrefl _ (Heap.lt_size (hk _ _ e))⟩
  refine wpAny_bind (wpAny_holding (wpAny_mono (PySem.W.list_sort_data (A := X.A.in1) (E := X.xe) (s := { s with heap := h'.push { cls := .type "list", data := .seq (xs'.map (·.2.2)).toArray }, toks := tk }) (Q := fun _ s' => EP X pins σ Q (.ref h'.objs.size) s') (enc := id) (R := Std H L) hob (std_of rr rv) er
    (by rw [List.map_id]; exact sort_alike ok) (by rw [List.map_id]; exact sort_able ok) (by rw [hdl]; exact z) (fun b hb => by have := sort_deep ok hb; have e1 : X.A.in1.units = X.A.units + 1 := rfl; show X.A.in1.units + 1 + b.depth < cLine; omega) fun out hlen he => ?_) (fun _ s' x => ?_) fun _ _ e => e))
  · obtain ⟨ys, ry, vy⟩ := of_std he
    obtain ⟨e2, he2⟩ := PyProof.Rows.sortedHeap_at (vs := xs'.map (·.2.2)) (out := List.toArray out) hob
    refine ⟨.ref _, upd H h'.objs.size (.lst ys), I'.laid (t' := tk) (fun b ob e => ?_) (Nat.le_refl _) ⟨by rw [vy.length, hlen, hdl]; exact z, out, e2, vy, he2⟩, rfl, q ys _ ry (I'.hok.fresh (Nat.le_refl _))⟩
    have hlt : b < h'.objs.size := Heap.lt_size e
    exact (PyProof.Rows.sortedHeap_old (Nat.ne_of_lt hlt) (by rw [size_push']; exact Nat.lt_succ_of_lt hlt)).trans (Heap.get?_push_of_some _ e)
  · exact wpAny_pure ⟨_, rfl, x⟩
end Ev
end
section
set_option maxRecDepth 100000
set_option maxHeartbeats 4000000
/-! EvT4: the rule for sorted(d.values()); statements; blocks. -/
namespace Ev
open PySem PySem.Spec PyProof.Rows L2
theorem Post.tr {α : Type} {W : WS} {l : Loc} {z z1 : Z} {S S1 : Sto} {H H1 : Hp} {r : Res α} {k : α → Z → Sto → Hp → Prop} (h : Post W l z S H r k) (t : Tr z S H z1 S1 H1) (R : Rep z1 S1 H1) : Post W l z1 S1 H1 r k := by
  cases r with
  | ok v S' => exact fun z' H' t' R' => h z' H' (t.trans R t') R'
  | err c x S' => exact fun z' H' t' R' => h z' H' (t.trans R t') R'
  | stuck => exact h
section
variable {X : Cx} {W : WS} {C : Calls} {n : Nat} {a b c d e o i value : Expr} {es ts : List Expr} {ma mb mc md mo mi mv me : ME} {ms : List ME} {pos pos' pos2 apos : Pos}
theorem e_svals {p : Pos} (m : Bool) (hc : X.calm = true) (hu : X.A.units + 64 < cLine) (hm : X.mg "sorted" = none) (ho : PE X o (rdE C W mo)) (hg : Gl X "sorted" := by rfl)
    (hbase : attributeBase o "values" X.env (eval o X.env) = eval o X.env := by rfl) (hline : (apos.endLine == pos2.line) = true := by rfl)
    (he : starEach [Expr.Call (.Attribute o "values" apos) [] [] pos2] X.env = (false, eval (.Call (.Attribute o "values" apos) [] [] pos2) X.env) :: starEach [] X.env := by rfl) (hpl : (backTo pos (starEach [] X.env)).any (·.1) = false := by rfl) :
    PE X (.Call (.Name "sorted" p) [.Call (.Attribute o "values" apos) [] [] pos2] [] pos) (rdE C W (.svals m mo)) :=
  PE.imp (pe_callB (cr_srtV hc hu) hg hm (by rfl) (pa_cons (pe_bm0 PySem.F.plainAttrs_dict PySem.F.slot_dict_values PySem.F.type_dict_values mt_vals ho hbase hline) pa_nil) (by decide) (by decide) he hpl) fun σ H Q ⟨z, l, S, hl, R, h⟩ => by
    unfold evalE at h
    refine seqE hl R h fun u H1 z1 S1 x a1 rx => ?_
    have h1 := a1.h
    cases x with
    | d _ => exact h1.elim
    | ref j =>
      have h1 : Post W l z1 S1 H1 (mVals m S1 j) (fun v z' S' H' => ∀ u, RelD z' S' H' v u → Q u H') := h1
      obtain ⟨hj, rfl⟩ := rx
      unfold mVals at h1
      split at h1
      · rename_i kvs q
        obtain ⟨ys, g1, g2⟩ := a1.R.at_ j _ q
        refine ⟨.inr (.inr (.inl ⟨rfl, .inr ⟨ys, g1⟩⟩)), z1.ρ j, ys, rfl, rfl, g1, fun p hp => ?_⟩
        unfold sortedP at h1
        by_cases c : sortOk (kvs.map (·.2)) = true ∧ (kvs.map (·.2)).length ≤ LIM
        · rw [if_pos c] at h1
          have ne : z1.ρ j ≠ p := ne_of_none g1 hp
          obtain ⟨t, R'⟩ := a1.R.laid (o := valsO p (z1.ρ j)) hp
          refine ⟨p, z1.ρ j, ys, kvs.map (·.2), Live z1 S1, rfl, upd_same, by rw [upd_ne ne]; exact g1, (g2.vals).tr t, c.1, fun zs q rz hq => ?_⟩
          have h2 : Post W l z1 S1 (upd H1 p (valsO p (z1.ρ j))) _ _ := Post.tr h1 t R'
          obtain ⟨w, z', S', k1, r1⟩ := new_list R' hq rz h2
          exact k1 _ r1
        · rw [if_neg c] at h1; exact h1.elim
      · exact h1.elim
/-- what never is done -/
theorem s_dead {st : Stmt} : PS X st (rdS C n W .dead) := ⟨fun pins s σ H D I ⟨z, l, S, hl, R, h⟩ => by
  unfold evalS at h
  exact h.elim⟩
/-- name = [..] on one line, the name a local -/
theorem s_setLc {i : Nat} {y : Str} {py : Pos} {elt tg iter : Expr} {ifs : List Expr} {scope : Scope} {own : List (Str × Nat)} {pos spos : Pos} {gg : L2.TG} {t : TG} {it : IT} {cc : Option ME} {me : ME} (m : Bool) (hc : X.calm = true) (hN : X.N.Nodup) (hsw : swapsWith (.ListComp elt [⟨tg, iter, ifs, 0⟩] scope pos) (some (.Name y py)) spos.line X.env = pure true) (hi : PI X tg iter (rdI C W it)) (ok : BlkOk X.N X.env.scope scope own)
    (hg : ∀ (s : Shared) (H : Hp) (Cc : Addr) (cl : List (Str × Addr)) (fp : List Addr), PG (X.blk s H scope (compEnvC scope cl Cc X.env) fp) tg gg) (hgk : GOk gg t) (hsl : slotsIn t (own.map (·.2)))
    (ht : ∀ (s : Shared) (H : Hp) (Cc : Addr) (cl : List (Str × Addr)) (fp : List Addr), PTs (X.blk s H scope (compEnvC scope cl Cc X.env) fp) ifs (rdC C cc))
    (he : ∀ (s : Shared) (H : Hp) (Cc : Addr) (cl : List (Str × Addr)) (fp : List Addr), PE (X.blk s H scope (compEnvC scope cl Cc X.env) fp) elt (rdE C W0 me)) (hy : X.N[i]? = some y := by rfl) (hyl : X.env.scope.names.lookup y = some .local := by rfl) (hs : ∀ x, foldedSetIterable iter X.env x = pure x := by intro _; rfl) :
    PS X (.Assign [.Name y py] (.ListComp elt [⟨tg, iter, ifs, 0⟩] scope pos) spos) (rdS C n W (.set i (.comp m (own.map (·.2)) t it cc me))) :=
  PS.imp (ps_setLc hc hN hy hyl hsw hi ok hg ht he hs) fun D σ H ⟨z, l, S, hl, R, h⟩ => by
    unfold evalS at h
    have r : rdE C W (.comp m (own.map (·.2)) t it cc me) σ H (fun x H1 => gName i x σ H1 D.nx) := seqES hl R h fun u H1 z1 S1 v a1 rv => PostS.next a1.R (a1.L.set rv) a1.h
    exact lc_ev m hgk hsl σ H _ r
/-- names = values by a tuple: whatever is not swapped -/
theorem parT_ok : ∀ (is : List Nat) (z : Z) (S : Sto) (H : Hp) (l l2 : Loc) (σ : L2.St) (xs : List DV) (vs : List V) (Q : L2.St → Hp → Prop), RelL z S H l σ → RelDs z S H xs vs → setAllD l is xs = some l2 → (∀ σ2, RelL z S H l2 σ2 → Q σ2 H) → gsOf is vs σ H Q
  | [], z, S, H, l, l2, σ, xs, vs, Q, hl, r, e, k => by
    cases xs with
    | cons _ _ => cases e
    | nil =>
      cases e
      unfold RelDs at r
      exact ⟨r, k σ hl⟩
  | i :: is, z, S, H, l, l2, σ, xs, vs, Q, hl, r, e, k => by
    cases xs with
    | nil => cases e
    | cons x xs =>
      obtain ⟨y, t, rfl, r1, r2⟩ := r
      exact ⟨y, t, rfl, parT_ok is z S H (l.set i (some x)) l2 (σ.set i (some y)) xs t Q (hl.set r1) r2 e k⟩
theorem setAllD_len : ∀ {is : List Nat} {l l2 : Loc} {xs : List DV}, setAllD l is xs = some l2 → xs.length = is.length
  | [], l, l2, xs, e => by cases xs <;> first | rfl | cases e
  | i :: is, l, l2, xs, e => by
    cases xs with
    | nil => cases e
    | cons x xs => rw [List.length_cons, List.length_cons, setAllD_len (l := l.set i (some x)) e]
theorem s_parT {is : List Nat} {kk k2 : Nat} {pt pt2 : Pos} (hcm : X.calm = true) (he : PA X es (rdA C W ms)) (hp : PGs X ts (gsOf is)) (hl2 : is.length ≤ LIM := by decide) (hn : (assignEach ts X.env).length = is.length := by rfl) (hst : (assignEach ts X.env).findIdx? (·.1) = none := by rfl)
    (hs : swapsWithSole [.Tuple ts kk pt] (.Tuple es k2 pt2) pos.line X.env = pure false := by rfl) (hw : swappedStores [.Tuple ts kk pt] (.Tuple es k2 pt2) X.env = pure none := by rfl) (h1 : (assignEach [.Tuple ts kk pt] X.env).map (·.2) = [assign (.Tuple ts kk pt) X.env] := by rfl) :
    PS X (.Assign [.Tuple ts kk pt] (.Tuple es k2 pt2) pos) (rdS C n W (.par is ms)) :=
  PS.imp (ps_asg (pe_tup he) (pg_tup hcm hp hn hst) hs hw h1) fun D σ H ⟨z, l, S, hl, R, h⟩ => by
    unfold evalS at h
    refine seqAS hl R h fun us H1 z1 S1 vs a1 rs => ?_
    obtain ⟨l2, q, h2⟩ := par_of a1.h
    have hlen : us.length = is.length := by rw [← RelDs.length rs]; exact setAllD_len q
    refine ⟨by rw [hlen]; exact lim_line hl2, fun p hp => ?_⟩
    obtain ⟨t, R'⟩ := a1.R.laid (o := .tup us) hp
    exact ⟨p, us, rfl, .inl (.inl upd_same), hlen, parT_ok is _ _ _ _ _ _ _ _ _ (a1.L.tr t) (rs.tr t) q fun σ2 hl2 => PostS.next R' hl2 (PostS.tr h2 t R')⟩
/-- a comprehension's block -/
theorem Good.blk {k : Nat} {s : Shared} {H : Hp} {scope : Scope} {cenv : Env} {fp : List Addr} (g : Good X W k) : Good (X.blk s H scope cenv fp) W0 k :=
  ⟨g.nd, g.calm, g.room, g.gd, fun u s' ⟨a, B, sI, pins, σ, H, cls, d, e, I, nb, up, sky, na, os, ag, w⟩ => w.elim fun _ q => q.elim fun _ q => q.elim fun _ q => q.elim fun _ q => q.elim fun _ q => q.2.2.2.elim, PassesOwn.never⟩
theorem Good.un {k : Nat} (g : Good X W k) : X.A.units + 64 < cLine := by have := g.room.un; omega
theorem Good.u1 {k : Nat} (g : Good X W k) : X.A.units + 1 < cLine := by have := g.room.un; omega
theorem Good.u66 {k : Nat} (g : Good X W k) : X.A.units + 66 < cLine := by have := g.room.un; omega
end
end Ev
end
section
set_option maxRecDepth 100000
set_option maxHeartbeats 4000000
/-! EvT5: enumerate. -/
namespace Ev
open PySem PySem.Spec PyProof.Rows L2
/-- enumerate(v) of whatever an iterator begins at -/
theorem enum_new1 {v : Value} {ob : Obj} {There : Heap → Prop} (B : Begins v ob There) : Meets (Builtin.«enumerate.__new__» ⟨[.type "enumerate", v], []⟩) (fun _ Rr st => There st.heap ∧
    Rr (.ok (.ret (.ref (st.heap.push ob).objs.size))) { st with heap := (st.heap.push ob).push { cls := .type "enumerate", data := .fields #[.none, .bool false, .ref st.heap.objs.size, rawInt 0, .none, .none] } }) :=
  .of_wp fun prog w Ar Rr st hyp => by
    obtain ⟨heap, gens, drawn, toks, sys⟩ := st
    obtain ⟨there, goal⟩ := hyp
    have hsub := sub_enumerate
    have begin_ : ∀ {A' : Around} {Ex : Value → Shared → Prop} {Qq : Value → Shared → Prop}, Qq (.ref heap.objs.size) ⟨heap.push ob, gens, drawn, toks, sys⟩ → wpAny (model prog w) A' (pyIter v) Qq Ex ⟨heap, gens, drawn, toks, sys⟩ :=
      fun q => B.iter prog w _ _ ⟨heap, gens, drawn, toks, sys⟩ _ there q
    wp_walk using begin_
    refine wpAny_stack_any fun _ => wpAny_pure ?_
    split
    · rename_i cc _ _ _ _ _
      cases (cc == Value.type "enumerate") <;> (wp_walk using begin_; exact ⟨_, rfl, goal⟩)
    · wp_walk using begin_
      exact ⟨_, rfl, goal⟩
theorem call_enum1 {prog : Program} {w : World} {A : Around} {E : Value → Shared → Prop} {s : Shared} {v : Value} {ob : Obj} {There : Heap → Prop} {Q : Value → Shared → Prop} (B : Begins v ob There) (there : There s.heap)
    (h : ∀ h', IsEnum h' (s.heap.objs.size + 1) s.heap.objs.size 0 .none → h'.get? s.heap.objs.size = some ob → (∀ b o, s.heap.get? b = some o → h'.get? b = some o) → Q (.ref (s.heap.objs.size + 1)) { s with heap := h' }) :
    wpAny (model prog w) A (call (.type "enumerate") [v]) Q E s := by
  refine callType_new F.called_enumerate (by decide) (F.typeCall_enumerate_1 _) (F.newCall_enumerate_1 _) (fun obj => F.args_object_init_2 obj _) F.entry_enumerate_new (enum_new1 B) ⟨there, ?_⟩
  have sz : (s.heap.push ob).objs.size = s.heap.objs.size + 1 := Heap.size_push ..
  have en : IsEnum ((s.heap.push ob).push { cls := .type "enumerate", data := .fields #[.none, .bool false, .ref s.heap.objs.size, rawInt 0, .none, .none] }) (s.heap.objs.size + 1) s.heap.objs.size 0 .none := by
    have g := Heap.get?_push_size (s.heap.push ob) (o := { cls := .type "enumerate", data := .fields #[.none, .bool false, .ref s.heap.objs.size, rawInt 0, .none, .none] }) rfl
    rw [sz] at g
    exact g
  show _ ∧ _
  rw [sz]
  exact ⟨⟨_, en, rfl⟩, h _ en (Heap.get?_push_of_some _ (Heap.get?_push_size _ B.free)) fun b o e => Heap.get?_push_of_some _ (Heap.get?_push_of_some _ e)⟩
/-- the tuple at a, each item in a new pair -/
def IteT (K : PySem.W.Frag) (a : Addr) : It where
  go := fun i H => ∃ (xs : List V) (x : V), SqT K H a xs ∧ xs[i]? = some x
  yld := fun i H v H' => ∃ T x, v = .ref T ∧ H T = none ∧ H' = upd H T (.tup [.int (i : Nat), x]) ∧ ∀ xs, SqT K H a xs → xs[i]? = some x
  stop := fun i H => ∃ xs : List V, SqT K H a xs ∧ xs.length = i
theorem walk_enumT {K : PySem.W.Frag} {a : Addr} {xs : List V} : Walk (IteT K a) xs.length (fun H => SqT K H a xs) (YPair (fun i => some (.int (i : Nat))) (fun i => xs[i]?)) :=
  ⟨fun i _ hi q => ⟨xs, xs[i], q, List.getElem?_eq_getElem hi⟩, fun _ q => ⟨xs, q, rfl⟩, fun i _ _ _ _ q ⟨T, x, h1, h2, h3, h4⟩ => ⟨T, .int (i : Nat), x, h1, h2, h3, rfl, h4 xs q⟩⟩
theorem turn_enumT {P : Program} {w : World} {K : PySem.W.Frag} {elts : List Expr} {kk : Nat} {tpos : Pos} (a e it : Addr) :
    Turn P w K (.Tuple elts kk tpos) (IteT K a) [e, it] e (fun i h => (∃ old, IsEnum h e it ((i : Nat) : Int) old) ∧ h.IsTupleIter it a i ∧ e ≠ it ∧ a ≠ it ∧ a ≠ e) where
  mem := List.mem_cons_self
  obj := by
    rintro i h ⟨⟨old, en⟩, ⟨o, ho, _, hd⟩, _⟩ b hb
    rcases List.mem_cons.mp hb with rfl | hb
    · exact ⟨_, en, fun v q => nomatch q⟩
    · cases List.mem_singleton.mp hb
      exact ⟨o, ho, fun v q => by rw [hd] at q; cases q⟩
  keep := by
    rintro i h h' ⟨⟨old, en⟩, ⟨o, ho, r⟩, n⟩ k
    exact ⟨⟨old, k e (by simp) _ en⟩, ⟨o, k it (by simp) o ho, r⟩, n⟩
  self := fun A i s Q E ⟨⟨_, en⟩, _⟩ h => wpAny_pyIter_enum en h
  item := by
    intro X hP hw hK hc i pins s σ H E I hf st hg
    subst hP hw hK
    obtain ⟨⟨old, en⟩, iter, ne1, ne2, ne3⟩ := st
    obtain ⟨xs, x, hq, hx⟩ := hg
    obtain ⟨its, rv, tup, _⟩ := I.tuple hq
    obtain ⟨u, hu, ru⟩ := rv.get hx
    have elt : e < s.heap.objs.size := Heap.lt_size en
    have ilt : it < s.heap.objs.size := by obtain ⟨_, q, _⟩ := iter; exact Heap.lt_size q
    have hi : i < its.toArray.size := by
      have := (List.getElem?_eq_some_iff.mp hu).1
      simpa using this
    have tup' : s.heap.IsTuple a its.toArray := tup
    refine wpAny_pyNext_enum_itemD (Draws.tuple (A := X.A.in1) (I.ok.hd hc) it a ne2 its.toArray) en ⟨iter, tup'⟩ hi ne1 (by simp [ne1, Ne.symm ne3]) fun x' h' tk px out st' hT hsz kk => ?_
    have ex : x' = u := by
      have q : its[i]? = some x' := by simpa using px
      rw [hu] at q
      exact (Option.some.inj q).symm
    subst ex
    refine ⟨_, rfl, wpAny_letOwnedTupleGo_enum (s := { s with heap := h', toks := tk + 1 }) out fun h'' en' sb => ?_⟩
    have hT2 : h''.get? s.heap.objs.size = some { cls := .type "tuple", data := .seq #[.int i tk, x'] } := (sb.2 _ (Nat.ne_of_gt elt)).trans hT
    have new : ObjOk X.prog X.w (upd H s.heap.objs.size (.tup [.int (i : Nat), x])) h'' s.heap.objs.size (.tup [.int (i : Nat), x]) :=
      ⟨by show 2 ≤ sizeLine; decide, [.int i tk, x'], .cons ⟨_, rfl⟩ (.cons ru .nil), ⟨_, hT2, rfl, _, rfl⟩⟩
    have I1 : Inv X pins σ (upd H s.heap.objs.size (.tup [.int (i : Nat), x])) { s with heap := h'', toks := tk + 1 } :=
      I.turnedNew (ch := [e, it]) (fun b ob hb q => by
        have h1 : b ≠ e := fun z => hb (by simp [z])
        have h2 : b ≠ it := fun z => hb (by simp [z])
        exact (sb.2 b h1).trans (kk b ob h1 h2 q)) hf (Nat.le_refl _) new
    refine ⟨.ref s.heap.objs.size, _, I1, rfl, ⟨_, x, rfl, I.hok.fresh (Nat.le_refl _), rfl, fun ys hy => by rw [I.tuple_inj hy hq]; exact hx⟩, ⟨⟨x', ?_⟩, ?_, ne1, ne2, ne3⟩, fun b hb => ?_⟩
    · have e1 : ((i + 1 : Nat) : Int) = (i : Int) + 1 := by omega
      rw [e1]
      exact en'
    · obtain ⟨o, ho, r⟩ := st'.1
      exact ⟨o, (sb.2 it (Ne.symm ne1)).trans ho, r⟩
    · have lt : b < s.heap.objs.size := by
        rcases List.mem_cons.mp hb with rfl | hb
        · exact elt
        · rw [List.mem_singleton.mp hb]; exact ilt
      rw [upd_ne (Nat.ne_of_lt lt)]
      exact (hf b hb).1
  done := by
    intro X hP hw hK hc i pins s σ H E I hf st hg
    subst hP hw hK
    obtain ⟨⟨old, en⟩, iter, ne1, ne2, ne3⟩ := st
    obtain ⟨xs, hq, hx⟩ := hg
    obtain ⟨its, rv, tup, _⟩ := I.tuple hq
    have tup' : s.heap.IsTuple a its.toArray := tup
    obtain ⟨f0, f1, f2, f3, f4, f5⟩ := hf it (by simp)
    have ei : its.toArray.size = i := by rw [List.size_toArray, ← rv.length]; exact hx
    subst ei
    exact wpAny_pyNext_enum_endD (Draws.tuple (A := X.A.in1) (I.ok.hd hc) it a ne2 its.toArray) en ⟨iter, tup'⟩ fun h' eb => ⟨rfl, I.turned (t' := s.toks) (fun b o hb q => eb b o hb q) f0 f1 f3 f4 f5⟩
/-- enumerate(e), e a list or a tuple -/
def iEnumA (K : PySem.W.Frag) (ta : TA) : TI := fun σ H Rr => ta σ H fun vs H1 => ∃ a xs, vs = [.ref a] ∧ ((SqL K H1 a xs ∧ Rr (Ite K a) H1) ∨ (SqT K H1 a xs ∧ Rr (IteT K a) H1))
theorem pi_enumA {X : Cx} {e : Expr} {ta : TA} {p pos tpos : Pos} {elts : List Expr} {kk : Nat} (hg : Gl X "enumerate") (hm : X.mg "enumerate" = none) (ha : PA X [e] ta) (hs : starEach [e] X.env = [(false, eval e X.env)] := by rfl) :
    PI X (.Tuple elts kk tpos) (.Call (.Name "enumerate" p) [e] [] pos) (iEnumA X.K ta) := by
  refine ⟨fun pins s σ H Rr I h => ?_⟩
  refine Call_ (ld_blt I hg hm boot_enumerate (PyProof.Rows.callWith_type1 (thn (ha.run pos pins s σ H _ I h) fun us s1 ⟨vs, H1, I1, r1, a, xs, ev, q⟩ => ?_) hs rfl))
  subst ev
  rw [Vals.ref1 r1]
  have low : ∀ b ∈ [s1.heap.objs.size + 1, s1.heap.objs.size], s1.heap.objs.size ≤ b := fun b hb => by
    have : b = s1.heap.objs.size + 1 ∨ b = s1.heap.objs.size := by simpa using hb
    omega
  rcases q with ⟨hq, q⟩ | ⟨hq, q⟩
  · obtain ⟨its, rv, lst, _⟩ := I1.list hq
    refine call_enum1 (begins_list a its.toArray) lst.isList fun h' en it keep => wpAny_pyIter_enum en ?_
    exact ⟨s1.heap.objs.size + 1, [s1.heap.objs.size + 1, s1.heap.objs.size], _, _, H1, rfl, I1.kept (t' := s1.toks) keep, turn_enum a (s1.heap.objs.size + 1) s1.heap.objs.size, ⟨⟨.none, en⟩, ⟨_, it, rfl, rfl⟩, Nat.succ_ne_self _⟩, fun b hb => I1.fpOk (low b hb) (I1.hok.fresh (low b hb)), q⟩
  · obtain ⟨its, rv, tup, _⟩ := I1.tuple hq
    have tup' : s1.heap.IsTuple a its.toArray := tup
    have alt : a < s1.heap.objs.size := by obtain ⟨_, g, _⟩ := tup'; exact Heap.lt_size g
    refine call_enum1 (begins_tuple a its.toArray) tup' fun h' en it keep => wpAny_pyIter_enum en ?_
    exact ⟨s1.heap.objs.size + 1, [s1.heap.objs.size + 1, s1.heap.objs.size], _, _, H1, rfl, I1.kept (t' := s1.toks) keep, turn_enumT a (s1.heap.objs.size + 1) s1.heap.objs.size, ⟨⟨.none, en⟩, ⟨_, it, rfl, rfl⟩, Nat.succ_ne_self _, Nat.ne_of_lt alt, Nat.ne_of_lt (Nat.lt_succ_of_lt alt)⟩, fun b hb => I1.fpOk (low b hb) (I1.hok.fresh (low b hb)), q⟩
theorem wk_enumT {K : PySem.W.Frag} {xs : List PyData} {z : Z} {S : Sto} {H : Hp} {a : Addr} {ys : List V} (nl : ¬ Live z S a) (d : Rd H a (.tup ys)) (r : RelPs H (Live z S) xs ys) : WkOf ⟨enumF 0 xs, none⟩ z S H (IteT K a) := by
  refine ⟨rfl, fun H' => SqT K H' a ys, YPair (fun i => some (.int (i : Nat))) (fun i => ys[i]?), by rw [show (Items.mk (enumF 0 xs) none).xs.length = ys.length by rw [← r.length]; exact enumF_length xs 0]; exact walk_enumT, fun z' S' H' t R _ => ?_, fun i z' S' H' x v Hy t R _ ex ⟨T, x1, y1, e1, hT, e2, f1, f2⟩ => ?_⟩
  · exact .inl (rd_keep (fun o h => t.kept a o h nl) d)
  · subst e1 e2
    cases f1
    obtain ⟨q, g1, g2⟩ := enumF_get xs 0 i x ex
    subst g2
    obtain ⟨y, e3, r1⟩ := r.get g1
    dsimp only at f2
    rw [e3] at f2; cases f2
    simp only [Nat.zero_add]
    exact pair_rel R hT (r1.tr t)
theorem i_enum {X : Cx} {W : WS} {C : Calls} {e : Expr} {ma : ME} {p pos tpos : Pos} {elts : List Expr} {kk : Nat} (hm : X.mg "enumerate" = none) (ha : PE X e (rdE C W ma)) (hg : Gl X "enumerate" := by rfl) (hs : starEach [e] X.env = [(false, eval e X.env)] := by rfl) (hs2 : starEach [e] X.env = (false, eval e X.env) :: starEach [] X.env := by rfl) :
    PI X (.Tuple elts kk tpos) (.Call (.Name "enumerate" p) [e] [] pos) (rdI C W (.enum ma)) :=
  PI.imp (pi_enumA hg hm (pa_cons ha pa_nil hs2) hs) fun σ H Q ⟨z, l, S, hl, R, h⟩ => by
    unfold evalI at h
    refine seqE hl R h fun u H1 z1 S1 v a1 rv => ?_
    obtain ⟨w, e, k1⟩ := Post.ofO a1.R a1.h
    cases v with
    | ref _ => cases e
    | d x =>
      have e : (seqP x).map (fun xs => Items.mk (enumF 0 xs) none) = some w := e
      have rv : RelP H1 (Live z1 S1) x u := rv
      cases x <;> simp only [seqP] at e <;> try (cases e; done)
      · cases e
        unfold RelP at rv
        obtain ⟨ad, ys, rfl, nl, dd, rr⟩ := rv
        exact ⟨ad, ys, rfl, .inl ⟨.inl dd, k1 _ (wk_enum nl dd rr)⟩⟩
      · cases e
        unfold RelP at rv
        obtain ⟨ad, ys, rfl, nl, dd, rr⟩ := rv
        exact ⟨ad, ys, rfl, .inr ⟨.inl (.inl dd), k1 _ (wk_enumT nl (.inl dd) rr)⟩⟩
end Ev
end
section
set_option maxRecDepth 100000
set_option maxHeartbeats 4000000
/-! EvT6: three comparisons in a row; max and min with a default. -/
namespace Ev
open PySem PySem.Spec PyProof.Rows L2
section
variable {X : Cx} {W : WS} {C : Calls} {a b c d e : Expr} {ma mb mc md me : ME} {pos : Pos}
/-- the reading of a op b op' c op'' d -/
def tChain3 (r r' r'' : R2) (ta tb tc td : TE) : TE := fun σ H Q => ta σ H fun x H1 => tb σ H1 fun y H2 => r x y H2 fun z H3 => ∃ k, z = .bl k ∧
  (if k = true then tc σ H3 fun w H4 => r' y w H4 fun z' H5 => ∃ k', z' = .bl k' ∧ (if k' = true then td σ H5 fun v H6 => r'' w v H6 Q else Q (.bl false) H5) else Q (.bl false) H3)
theorem pe_chain3 {op op' op'' : CmpOp} {r r' r'' : R2} {ta tb tc td : TE} (ho : OpR X (compareOp op) r) (ho' : OpR X (compareOp op') r') (ho'' : OpR X (compareOp op'') r'') (ha : PE X a ta) (hb : PE X b tb) (hc : PE X c tc) (hd : PE X d td)
    (hm : lastMarks [op, op', op''] [b, c, d] = false := by with_unfolding_all rfl) : PE X (.Compare a [op, op', op''] [b, c, d] pos) (tChain3 r r' r'' ta tb tc td) := by
  refine ⟨fun pins s σ H Q I h => Compare_chain (thn (ha.run pins s σ H _ I h) fun v1 s1 ⟨x, H1, I1, r1, q1⟩ => ?_) hm⟩
  refine chain_link (thn (hb.run pins s1 σ H1 _ I1 q1) fun v2 s2 ⟨y, H2, I2, r2, q2⟩ => thn (ho pins s2 σ H2 x y v1 v2 _ I2 r1 r2 q2) fun v3 s3 ⟨z, H3, I3, r3, k, e3, q3⟩ => ?_)
  subst e3
  cases r3
  refine wpAny_truthy_bool ?_
  cases k with
  | false => exact ite_ff ⟨.bl false, H3, I3, rfl, q3⟩
  | true =>
    refine ite_tt (chain_link (thn (hc.run pins s3 σ H3 _ I3 q3) fun v4 s4 ⟨w, H4, I4, r4, q4⟩ => thn (ho' pins s4 σ H4 y w v2 v4 _ I4 r2 r4 q4) fun v5 s5 ⟨z', H5, I5, r5, k', e5, q5⟩ => ?_))
    subst e5
    cases r5
    refine wpAny_truthy_bool ?_
    cases k' with
    | false => exact ite_ff ⟨.bl false, H5, I5, rfl, q5⟩
    | true => exact ite_tt (chain_last (thn (hd.run pins s5 σ H5 _ I5 q5) fun v6 s6 ⟨v, H6, I6, r6, q6⟩ => ho'' pins s6 σ H6 w v v4 v6 Q I6 r4 r6 q6))
theorem chain_end {o : Cmp} {r : R2} (hk : OpOk r (cmpD o)) {l : Loc} {z : Z} {S : Sto} {H : Hp} {x y : DV} {u v : V} {Q : VK} (R : Rep z S H) (rx : RelD z S H x u) (ry : RelD z S H y v)
    (h : Post W l z S H (ofO ((asP S x).bind fun p => (asP S y).bind fun q => (cmpP o p q).map fun b => DV.d (.bool b)) S) (fun v z' S' H' => ∀ u, RelD z' S' H' v u → Q u H')) : r u v H Q := by
  cases ex : asP S x with
  | none => rw [ex] at h; exact h.elim
  | some p =>
    cases ey : asP S y with
    | none => rw [ex, ey] at h; exact h.elim
    | some q =>
      cases ef : cmpP o p q with
      | none => rw [ex, ey] at h; simp only [Option.bind_some, ef] at h; exact h.elim
      | some k2 =>
        rw [ex, ey] at h; simp only [Option.bind_some, ef, Option.map_some] at h
        exact hk W l z S H x y u v p q (.bool k2) Q R rx ry ex ey (by unfold cmpD; rw [ef]; rfl) fun H' u' t R' r' => h _ _ t R' u' r'
theorem e_chain3 {o o' o'' : Cmp} {op op' op'' : CmpOp} {r r' r'' : R2} (ho : OpR X (compareOp op) r) (ho' : OpR X (compareOp op') r') (ho'' : OpR X (compareOp op'') r'') (hk : OpOk r (cmpD o)) (hk' : OpOk r' (cmpD o')) (hk'' : OpOk r'' (cmpD o''))
    (ha : PE X a (rdE C W ma)) (hb : PE X b (rdE C W mb)) (hc : PE X c (rdE C W mc)) (hd : PE X d (rdE C W md)) (hm : lastMarks [op, op', op''] [b, c, d] = false := by with_unfolding_all rfl) :
    PE X (.Compare a [op, op', op''] [b, c, d] pos) (rdE C W (.chain3 ma o mb o' mc o'' md)) :=
  PE.imp (pe_chain3 ho ho' ho'' ha hb hc hd hm) fun σ H Q ⟨z, l, S, hl, R, h⟩ => by
    unfold evalE at h
    refine seqE hl R h fun u H1 z1 S1 x a1 rx => ?_
    refine seqE a1.L a1.R a1.h fun v H2 z2 S2 y a2 ry => ?_
    refine chain_step hk a2.L a2.R (rx.tr a2.t) ry a2.h fun kk H3 t3 R3 h3 => ⟨kk, rfl, ?_⟩
    cases kk with
    | false => rw [if_neg Bool.false_ne_true] at h3 ⊢; exact Post.ok R3 h3 _ rD_b
    | true =>
      rw [if_pos rfl] at h3 ⊢
      refine seqE (a2.L.tr t3) R3 h3 fun w H4 z4 S4 y' a4 rw' => ?_
      refine chain_step hk' a4.L a4.R ((ry.tr t3).tr a4.t) rw' a4.h fun k5 H5 t5 R5 h5 => ⟨k5, rfl, ?_⟩
      cases k5 with
      | false => rw [if_neg Bool.false_ne_true] at h5 ⊢; exact Post.ok R5 h5 _ rD_b
      | true =>
        rw [if_pos rfl] at h5 ⊢
        refine seqE (a4.L.tr t5) R5 h5 fun v6 H6 z6 S6 y6 a6 r6 => ?_
        exact chain_end hk'' a6.R ((rw'.tr t5).tr a6.t) r6 a6.h
end

theorem dp_ints (K : PySem.W.Frag) (H : Hp) : ∀ ns : List Int, DpAll K H (ns.map V.int) (ns.map .int)
  | [] => .nil
  | n :: ns => .cons (.int n) (dp_ints K H ns)
theorem alike_is (ns : List Int) : PySem.W.AlikeAll (ns.map .int) := by
  refine ⟨fun x hx y hy => ?_, fun x hx => ?_⟩
  · obtain ⟨i, _, rfl⟩ := List.mem_map.mp hx
    obtain ⟨j, _, rfl⟩ := List.mem_map.mp hy
    rfl
  · obtain ⟨i, _, rfl⟩ := List.mem_map.mp hx
    exact fun e => nomatch e
theorem maxI_fold (n : Int) (r : List Int) : maxI (n :: r) = some (r.foldl max n) := by
  have e : (fun a b : Int => if b > a then b else a) = max := by
    funext a b
    by_cases c : b > a
    · rw [if_pos c]; omega
    · rw [if_neg c]; omega
  show some (List.foldl (fun a b : Int => if b > a then b else a) n r) = _
  rw [e]
theorem minI_fold (n : Int) (r : List Int) : minI (n :: r) = some (r.foldl min n) := by
  have e : (fun a b : Int => if b < a then b else a) = min := by
    funext a b
    by_cases c : b < a
    · rw [if_pos c]; omega
    · rw [if_neg c]; omega
  show some (List.foldl (fun a b : Int => if b < a then b else a) n r) = _
  rw [e]
theorem bind_assoc2 {α β γ : Type} {W : WS} {l : Loc} {z : Z} {S : Sto} {H : Hp} {r : Res α} {f : α → Sto → Res β} {g : β → Sto → Res γ} {k : γ → Z → Sto → Hp → Prop} (h : Post W l z S H ((r.bind f).bind g) k) : Post W l z S H (r.bind fun v S1 => (f v S1).bind g) k := by
  cases r <;> exact h

/-! Max -/
def rMaxDef (K : PySem.W.Frag) : List V → List V → Hp → VK → Prop := fun xs zs H Q => ∃ (a : Addr) (ns : List Int) (d : V), xs = [.ref a] ∧ zs = [d] ∧ SqL K H a (ns.map V.int) ∧ (ns = [] → Q d H) ∧ ∀ m, maxI ns = some m → Q (.int m) H
theorem cr_maxDef {X : Cx} (hc : X.calm = true) (hu : X.A.units + 64 < cLine) : CallRK X (.builtin "max") [Str.ofString "default"] (rMaxDef X.K) := by
  intro pins s σ H xs zs us ws Q I r r2 h
  obtain ⟨a, ns, d, rfl, rfl, hs, q0, q1⟩ := h
  rw [Vals.ref1 r]
  obtain ⟨wd, rfl, rd⟩ := vals1 r2
  obtain ⟨its, rv, lst, hz⟩ := I.list hs
  obtain ⟨as, rds⟩ := Dp.readsAll I (ns.map .int) _ _ (dp_ints X.K H ns) rv
  refine PySem.W.max_list_default (l := a) (vs := its.toArray) (xs := ns.map .int) (as := as) (d := wd) (I.ok.hd hc) lst.isList (by simpa using rds) (alike_is ns) (by rw [PySem.W.depth_ints]; omega) (fun e h' tk keep => ?_) fun y ys i v h' tk bs e hv rd' keep => ?_
  · exact ⟨d, H, I.kept (t' := tk) keep, rd, q0 (by cases ns with | nil => rfl | cons _ _ => cases e)⟩
  · cases ns with
    | nil => cases e
    | cons n r =>
      cases e
      rw [PySem.W.maxD_ints] at rd'
      cases rd' with
      | int j t => exact ⟨.int _, H, I.kept (t' := tk) keep, ⟨t, rfl⟩, q1 _ (by rw [maxI_fold])⟩
theorem e_maxD {X : Cx} {W : WS} {C : Calls} {e d : Expr} {me md : ME} {p pos kpos : Pos} (hc : X.calm = true) (hu : X.A.units + 64 < cLine) (hm : X.mg "max" = none) (he : PE X e (rdE C W me)) (hd : PE X d (rdE C W md)) (hg : Gl X "max" := by rfl)
    (hs : starEach [e] X.env = (false, eval e X.env) :: starEach [] X.env := by rfl) (hs2 : backTo pos (starEach [e] X.env) = (false, eval e X.env) :: backTo pos (starEach [] X.env) := by rfl) (hpl : (backTo pos (starEach [e] X.env)).any (·.1) = false := by rfl)
    (hall : (backToKw pos (keywordEach [⟨some (Str.ofString "default"), d, kpos⟩] X.env)).all (·.1.isSome) = true := by rfl) (hnone : (backToKw pos (keywordEach [⟨some (Str.ofString "default"), d, kpos⟩] X.env)).any (·.1.isNone) = false := by rfl)
    (hks : (backToKw pos (keywordEach [⟨some (Str.ofString "default"), d, kpos⟩] X.env)).filterMap (·.1) = [Str.ofString "default"] := by rfl) :
    PE X (.Call (.Name "max" p) [e] [⟨some (Str.ofString "default"), d, kpos⟩] pos) (rdE C W (.bi .maxD [me, md])) :=
  PE.imp (pe_callBK (cr_maxDef hc hu) hg hm (by rfl) (pa_cons he pa_nil hs) (pk_cons hd pk_nil) (by decide) (by decide) hs2 hpl hall hnone hks) fun σ H Q ⟨z, l, S, hl, R, h⟩ => by
    unfold evalE evalEs at h
    unfold evalEs at h
    unfold evalEs at h
    have h := bind_assoc2 h
    refine seqE hl R h fun u H1 z1 S1 v a1 rv => ?_
    refine seqE a1.L a1.R (bind_assoc2 (bind_assoc2 a1.h)) fun w H2 z2 S2 y a2 ry => ?_
    have h2 : Post W l z2 S2 H2 (bDef S2 [v, y] maxI) (fun v z' S' H' => ∀ u, RelD z' S' H' v u → Q u H') := a2.h
    unfold bDef at h2
    cases y with
    | ref _ => exact h2.elim
    | d y =>
      obtain ⟨w2, e2, k2⟩ := Post.ofO a2.R h2
      cases ei : intsV S2 v with
      | none => rw [ei] at e2; cases e2
      | some ns =>
        rw [ei] at e2
        obtain ⟨a, rfl, dd⟩ := intsV_rel a2.R ei (rv.tr a2.t)
        refine ⟨a, ns, w, rfl, rfl, .inl dd, fun e0 => ?_, fun m em => ?_⟩
        · subst e0
          cases e2
          exact k2 _ ry
        · simp only [Option.map_some, em] at e2
          cases e2
          exact k2 _ rD_i

/-! Min -/
def rMinDef (K : PySem.W.Frag) : List V → List V → Hp → VK → Prop := fun xs zs H Q => ∃ (a : Addr) (ns : List Int) (d : V), xs = [.ref a] ∧ zs = [d] ∧ SqL K H a (ns.map V.int) ∧ (ns = [] → Q d H) ∧ ∀ m, minI ns = some m → Q (.int m) H
theorem cr_minDef {X : Cx} (hc : X.calm = true) (hu : X.A.units + 64 < cLine) : CallRK X (.builtin "min") [Str.ofString "default"] (rMinDef X.K) := by
  intro pins s σ H xs zs us ws Q I r r2 h
  obtain ⟨a, ns, d, rfl, rfl, hs, q0, q1⟩ := h
  rw [Vals.ref1 r]
  obtain ⟨wd, rfl, rd⟩ := vals1 r2
  obtain ⟨its, rv, lst, hz⟩ := I.list hs
  obtain ⟨as, rds⟩ := Dp.readsAll I (ns.map .int) _ _ (dp_ints X.K H ns) rv
  refine PySem.W.min_list_default (l := a) (vs := its.toArray) (xs := ns.map .int) (as := as) (d := wd) (I.ok.hd hc) lst.isList (by simpa using rds) (alike_is ns) (by rw [PySem.W.depth_ints]; omega) (fun e h' tk keep => ?_) fun y ys i v h' tk bs e hv rd' keep => ?_
  · exact ⟨d, H, I.kept (t' := tk) keep, rd, q0 (by cases ns with | nil => rfl | cons _ _ => cases e)⟩
  · cases ns with
    | nil => cases e
    | cons n r =>
      cases e
      rw [PySem.W.minD_ints] at rd'
      cases rd' with
      | int j t => exact ⟨.int _, H, I.kept (t' := tk) keep, ⟨t, rfl⟩, q1 _ (by rw [minI_fold])⟩
theorem e_minD {X : Cx} {W : WS} {C : Calls} {e d : Expr} {me md : ME} {p pos kpos : Pos} (hc : X.calm = true) (hu : X.A.units + 64 < cLine) (hm : X.mg "min" = none) (he : PE X e (rdE C W me)) (hd : PE X d (rdE C W md)) (hg : Gl X "min" := by rfl)
    (hs : starEach [e] X.env = (false, eval e X.env) :: starEach [] X.env := by rfl) (hs2 : backTo pos (starEach [e] X.env) = (false, eval e X.env) :: backTo pos (starEach [] X.env) := by rfl) (hpl : (backTo pos (starEach [e] X.env)).any (·.1) = false := by rfl)
    (hall : (backToKw pos (keywordEach [⟨some (Str.ofString "default"), d, kpos⟩] X.env)).all (·.1.isSome) = true := by rfl) (hnone : (backToKw pos (keywordEach [⟨some (Str.ofString "default"), d, kpos⟩] X.env)).any (·.1.isNone) = false := by rfl)
    (hks : (backToKw pos (keywordEach [⟨some (Str.ofString "default"), d, kpos⟩] X.env)).filterMap (·.1) = [Str.ofString "default"] := by rfl) :
    PE X (.Call (.Name "min" p) [e] [⟨some (Str.ofString "default"), d, kpos⟩] pos) (rdE C W (.bi .minD [me, md])) :=
  PE.imp (pe_callBK (cr_minDef hc hu) hg hm (by rfl) (pa_cons he pa_nil hs) (pk_cons hd pk_nil) (by decide) (by decide) hs2 hpl hall hnone hks) fun σ H Q ⟨z, l, S, hl, R, h⟩ => by
    unfold evalE evalEs at h
    unfold evalEs at h
    unfold evalEs at h
    have h := bind_assoc2 h
    refine seqE hl R h fun u H1 z1 S1 v a1 rv => ?_
    refine seqE a1.L a1.R (bind_assoc2 (bind_assoc2 a1.h)) fun w H2 z2 S2 y a2 ry => ?_
    have h2 : Post W l z2 S2 H2 (bDef S2 [v, y] minI) (fun v z' S' H' => ∀ u, RelD z' S' H' v u → Q u H') := a2.h
    unfold bDef at h2
    cases y with
    | ref _ => exact h2.elim
    | d y =>
      obtain ⟨w2, e2, k2⟩ := Post.ofO a2.R h2
      cases ei : intsV S2 v with
      | none => rw [ei] at e2; cases e2
      | some ns =>
        rw [ei] at e2
        obtain ⟨a, rfl, dd⟩ := intsV_rel a2.R ei (rv.tr a2.t)
        refine ⟨a, ns, w, rfl, rfl, .inl dd, fun e0 => ?_, fun m em => ?_⟩
        · subst e0
          cases e2
          exact k2 _ ry
        · simp only [Option.map_some, em] at e2
          cases e2
          exact k2 _ rD_i
end Ev
end
section
set_option maxRecDepth 100000
set_option maxHeartbeats 4000000
/-! EvT7: sorted by a key that is a function of the table. -/
namespace Ev
open PySem PySem.Spec PyProof.Rows L2
open PySem.W (EachIs dataLe copyHeap copyHeap_at copyHeap_old sortingHeap sortingHeap_old sorting_copy_old)
/-- how far the keys have come -/
structure KeyAt (X : Cx) (pins : List (Addr × Obj)) (σ : L2.St) (H : Hp) (z : Z) (a kS : Addr) (e1 : Nat) (ks : List PyData) (s' : Shared) : Prop where
  ex : ∃ (Hi : Hp) (zi : Z) (kv : List V) (raw : List Value) (e : Nat), L2.Inv X pins σ Hi s' ∧ Hi a = none ∧ Hi kS = none ∧ s'.heap.get? kS = some (seqObj "list" raw.toArray e) ∧ s'.heap.get? a = some (seqObj "list" #[] e1) ∧
    (∀ b o, H b = some o → Hi b = some o) ∧ Grow z zi H ∧ Rep zi [] Hi ∧ RelPs Hi (Live zi []) ks kv ∧ Vals kv raw
theorem live_nil {z : Z} {a : Addr} (h : Live z [] a) : z.Rz a := h.elim id fun ⟨i, hi, _⟩ => absurd hi (Nat.not_lt_zero _)
theorem Rep.bare {z : Z} {S : Sto} {H : Hp} (R : Rep z S H) : Rep z [] H := ⟨fun _ _ h => absurd h (Nat.not_lt_zero _), fun _ h => absurd h (Nat.not_lt_zero _), R.trk, fun i o h => by simp at h⟩
/-- more is known: nothing is lost -/
theorem Rep.more {z : Z} {S : Sto} {H H' : Hp} (R : Rep z S H) (k : ∀ b o, H b = some o → H' b = some o) : Tr z S H z S H' ∧ Rep z S H' := by
  have m : ∀ a o, H a = some o → ¬ Live z S a → H' a = some o := fun a o h _ => k a o h
  have n : ∀ a o, H a = some o → ¬ Live z S a → ¬ Live z S a := fun _ _ _ q => q
  have t : Tr z S H z S H' := ⟨Grow.refl _ _, Nat.le_refl _, fun _ _ => rfl, fun a o h _ => k a o h, fun i h1 h2 => absurd h2 (by omega)⟩
  refine ⟨t, R.inj, R.nrz, fun a ha e => ?_, fun i o h => ?_⟩
  · cases q : H a with
    | none => exact R.trk a ha q
    | some u => rw [k a u q] at e; cases e
  · have r := R.at_ i o h
    cases o with
    | lst xs => obtain ⟨ys, h1, h2⟩ := r; exact ⟨ys, k _ _ h1, h2.tr t⟩
    | box xs => obtain ⟨ys, h1, h2⟩ := r; exact ⟨ys, k _ _ h1, h2.tr t⟩
    | dT kvs => obtain ⟨ys, h1, h2⟩ := r; exact ⟨ys, k _ _ h1, h2.tr t⟩
    | dK kvs => obtain ⟨ys, h1, h2⟩ := r; exact ⟨ys, k _ _ h1, h2.tr t⟩
theorem keysOf_at {C : Calls} {key : String} {S : Sto} : ∀ {ds ks : List PyData} {i : Nat} {d : PyData}, keysOf C key ds S = some ks → ds[i]? = some d → ∃ k, ks[i]? = some k ∧ C key [.d d] [] = .ok (.d k) []
  | [], ks, i, d, _, h => by simp at h
  | x :: r, ks, i, d, e, h => by
    unfold keysOf at e
    split at e
    · rename_i k ec
      cases q : keysOf C key r S with
      | none => rw [q] at e; cases e
      | some t =>
        rw [q] at e
        cases e
        cases i with
        | zero =>
          simp at h
          subst h
          exact ⟨k, rfl, ec⟩
        | succ i =>
          obtain ⟨k', h1, h2⟩ := keysOf_at (i := i) q (by simpa using h)
          exact ⟨k', by simpa using h1, h2⟩
    · cases e
theorem keysOf_len {C : Calls} {key : String} {S : Sto} : ∀ {ds ks : List PyData}, keysOf C key ds S = some ks → ks.length = ds.length
  | [], ks, e => by cases e; rfl
  | x :: r, ks, e => by
    unfold keysOf at e
    split at e
    · cases q : keysOf C key r S with
      | none => rw [q] at e; cases e
      | some t =>
        rw [q] at e
        cases e
        rw [List.length_cons, List.length_cons, keysOf_len q]
    · cases e
section
variable {X : Cx} {k : Nat} {f : Addr} {fd : FuncData} {ps : List Str} {key : String} {C : Calls}
/-- one call of the key -/
theorem key_call {pins : List (Addr × Obj)} {σ : L2.St} {Hi : Hp} {zi : Z} {s' : Shared} {v : Value} {x : V} {d kd : PyData} {A : Around} {Q : Except Value Value → Shared → Prop} {E : Value → Shared → Prop} (hA : A = X.A.in1.in1) (room : Room (k + 1) X.A) (gd : X.A.guards = some [])
    (F : FnOkG X.prog X.w X.K X.mg X.base k f fd ps (spEv X.mg 1 C key)) (hb : Binds X.K fd ps []) (I : L2.Inv X pins σ Hi s') (Ri : Rep zi [] Hi) (rv : RelV x v) (rx : RelP Hi (Live zi []) d x) (hC : C key [.d d] [] = .ok (.d kd) [])
    (h : ∀ u s'' H'' z'' y, L2.Inv X pins σ H'' s'' → RelV y u → Tr zi [] Hi z'' [] H'' → Rep z'' [] H'' → RelP H'' (Live z'' []) kd y → Q (.ok u) s'') :
    wpAny (model X.prog X.w) A (call (.ref f) [v]).attempt Q E s' := by
  subst hA
  have sp : spEv X.mg 1 C key [x] Hi (fun y H'' => ∃ z'', Tr zi [] Hi z'' [] H'' ∧ Rep z'' [] H'' ∧ RelP H'' (Live z'' []) kd y) (fun _ _ _ => False) := by
    refine ⟨rfl, zi, [], [.d d], ⟨x, [], rfl, rx, rfl⟩, Ri, ?_⟩
    rw [hC]
    exact fun z' H' u t R r => ⟨z', t, R, r⟩
  have room2 : Room k X.A.in1.in1 := ⟨room.hd, by have := room.dp; show X.A.depth + 3 * k + 5 < _; omega, by have := room.un; show X.A.units + 1 + 1 + 16 * k + 200 < _; omega⟩
  have len : [v].length = ps.length := F.len _ _ _ _ sp
  have bnd : BindsTo s' fd ⟨[v], []⟩ (ps.zip [v]) := by
    have := hb s' [v] I.kIn len
    rwa [List.append_nil] at this
  refine wpAny_attempt (wpAny_call (codeAny_mono (F.run X.A.in1.in1 X.stack s' Hi ⟨[v], []⟩ [v] [x] _ _ room2 gd I.env0.in1.in1 bnd (.cons rv .nil) sp) fun rr s'' hq => ?_))
  cases rr with
  | error e =>
    obtain ⟨_, _, _, _, _, _, _, _, _, _, _, _, _, _, _, _, w⟩ := XE.of_call (W := fun _ _ _ _ => False) I (fun _ _ _ q => q) hq
    exact w.elim
  | ok fl =>
    cases fl with
    | ret u =>
      obtain ⟨y, H'', J, ry, z'', t, R, r⟩ := I.after hq
      exact h u s'' H'' z'' y J ry t R r
    | next => exact False.elim hq
    | brk => exact False.elim hq
    | cont => exact False.elim hq
theorem vals_snoc : ∀ {xs : List V} {us : List Value} {x : V} {u : Value}, Vals xs us → RelV x u → Vals (xs ++ [x]) (us ++ [u])
  | _, _, _, _, .nil, h => .cons h .nil
  | _, _, _, _, .cons r t, h => .cons r (vals_snoc t h)
theorem each_zip {β γ : Type} {R : Value → β → Prop} : ∀ {us : List Value} {bs : List β} {cs : List γ}, EachIs R us bs → cs.length = bs.length → EachIs (fun v p => R v p.1) us (bs.zip cs)
  | _, _, [], .nil, _ => .nil
  | _, _, _ :: _, .nil, h => by simp at h
  | _, _, [], .cons _ _, h => by simp at h
  | _, _, c :: cs, .cons r t, h => .cons r (each_zip t (by simpa using h))
/-- the keys, item by item, then the sort -/
theorem sortK_run {pins : List (Addr × Obj)} {s : Shared} {σ : L2.St} {H : Hp} {l : Addr} {xs : List V} {z : Z} {S : Sto} {ds ks : List PyData} {Q : VK} (calm : X.calm = true) (room : Room (k + 1) X.A) (gd : X.A.guards = some [])
    (F : FnOkG X.prog X.w X.K X.mg X.base k f fd ps (spEv X.mg 1 C key)) (hb : Binds X.K fd ps []) (I : L2.Inv X pins σ H s) (hs : SqL X.K H l xs ∨ SqT X.K H l xs) (R : Rep z S H) (rr : RelPs H (Live z S) ds xs) (hk : keysOf C key ds S = some ks) (ok : sortOk ks = true)
    (q : ∀ H' ys p, (∀ b o, H b = some o → H' b = some o) → H p = none → H' p = none → RelPs H (Live z S) (((ds.zip ks).mergeSort (dataLe false (·.2))).map (·.1)) ys → Q (.ref p) (upd H' p (.lst ys))) :
    wpAny (model X.prog X.w) X.A (call (.builtin "sorted") [.ref l] [(Str.ofString "key", .ref f)]) (EP X pins σ Q) X.xe s := by
  obtain ⟨its, T, o, n, rv, hT, ho, hc, hd, hz⟩ := seq_obj I hs
  have hun : X.A.units + 200 < cLine := by have := room.un; omega
  have hzi : its.length ≤ sizeLine := by rw [← rv.length]; exact hz
  have hkl := keysOf_len hk
  have hdl : ds.length = its.length := by rw [rr.length, rv.length]
  refine sorted_seq hT ho hc hd hzi (ksk_s1 _ _) fun h' E' keep => ?_
  have I' : L2.Inv X pins σ H { s with heap := h' } := I.kept (t' := s.toks) keep
  have hoL : (h'.push (seqObj "list" its.toArray 0)).get? h'.objs.size = some (seqObj "list" its.toArray 0) := Heap.get?_push_size _ rfl
  refine wpAny_call_entry_kw slot_list_sort (s := { s with heap := h'.push (seqObj "list" its.toArray 0) }) ⟨_, hoL, rfl⟩ entry_list_sort ?_ (ksk_l1 _ _)
  rw [ksk_t1]
  unfold ksk_tree
  obtain ⟨e1, ho1⟩ : ∃ e1, ((h'.push (seqObj "list" its.toArray 0)).update h'.objs.size (Obj.mapSeq fun _ => (#[] : Array Value))).get? h'.objs.size = some (seqObj "list" #[] e1) := ⟨_, get?_update_seq hoL fun _ => #[]⟩
  refine wpAny_bind (listItems_at (s := { s with heap := h'.push (seqObj "list" its.toArray 0) }) hoL rfl ?_)
  refine wpAny_bind (listUpdate_at (s := { s with heap := h'.push (seqObj "list" its.toArray 0) }) hoL rfl ?_ (by rw [List.size_toArray]; exact hzi) (Nat.zero_le _))
  refine wpAny_bind (seqEpoch_at ho1 rfl ?_)
  refine wpAny_bind (wpAny_newTuple ?_ (by show its.length ≤ _; exact hzi))
  refine wpAny_bind (wpAny_newList ?_ (Nat.zero_le _))
  refine wpAny_holding ?_
  generalize hkS : (((h'.push (seqObj "list" its.toArray 0)).update h'.objs.size (Obj.mapSeq fun _ => (#[] : Array Value))).push (seqObj "tuple" its.toArray 0)).objs.size = kS
  have ekS : kS = h'.objs.size + 2 := by rw [← hkS, size_push', Heap.size_update, size_push']
  have nk0 : (sortingHeap (h'.push (seqObj "list" its.toArray 0)) h'.objs.size its).get? kS = some (seqObj "list" #[] 0) := by
    rw [← hkS]
    exact Heap.get?_push_size _ rfl
  have na0 : (sortingHeap (h'.push (seqObj "list" its.toArray 0)) h'.objs.size its).get? h'.objs.size = some (seqObj "list" #[] e1) := Heap.get?_push_of_some _ (Heap.get?_push_of_some _ ho1)
  have I0 : L2.Inv X pins σ H { s with heap := sortingHeap (h'.push (seqObj "list" its.toArray 0)) h'.objs.size its } := I'.kept (t' := s.toks) fun b o e => sortingHeap_old (Nat.ne_of_lt (Heap.lt_size e)) (Heap.get?_push_of_some _ e)
  have lowK : h'.objs.size ≤ kS := by omega
  have fpA : ∀ {Hi : Hp}, Hi h'.objs.size = none → FpOk X pins Hi h'.objs.size := fun n => I'.fpOk (Nat.le_refl _) n
  have fpK : ∀ {Hi : Hp}, Hi kS = none → FpOk X pins Hi kS := fun n => I'.fpOk lowK n
  have nA : H h'.objs.size = none := I'.hok.fresh (Nat.le_refl _)
  have nK : H kS = none := I'.hok.fresh lowK
  have hka : kS ≠ h'.objs.size := by omega
  show wpAny (model X.prog X.w) X.A.in1.in1 (ksk_rest h'.objs.size (.ref f) false its.toArray e1 (.ref _)) _ _ { s with heap := sortingHeap (h'.push (seqObj "list" its.toArray 0)) h'.objs.size its }
  generalize h'.objs.size = a at *
  unfold ksk_rest
  refine wpAny_bind (wpAny_rule ?_)
  first
    | rw [List.forIn_toArray]
    | (rw [← Array.forIn_toList]; simp only [List.toList_toArray])
    | rw [← Array.forIn_toList]
  refine wpAny_bind (ksk_fold (fun i s' => KeyAt X pins σ H z a kS e1 (ks.take i) s') its 0 _ ⟨H, z, [], [], 0, I0, nA, nK, nk0, na0, fun _ _ e => e, Grow.refl _ _, R.bare, by rw [List.take_zero]; exact RelPs.nil, .nil⟩ ?step ?done)
  case step =>
    rintro j v s' hv ⟨Hi, zi, kv, raw, e, Ii, na, nk, gk, ga, more, grow, Ri, rk, vk⟩
    simp only [Nat.zero_add] at rk ⊢
    obtain ⟨x, hx, rvx⟩ : ∃ x, xs[j]? = some x ∧ RelV x v := by
      have hj : j < xs.length := by rw [rv.length]; exact (List.getElem?_eq_some_iff.mp hv).1
      obtain ⟨u, hu, ru⟩ := rv.get (List.getElem?_eq_getElem hj)
      rw [hv] at hu
      cases hu
      exact ⟨_, List.getElem?_eq_getElem hj, ru⟩
    obtain ⟨d, hd⟩ : ∃ d, ds[j]? = some d := by
      have hj : j < ds.length := by rw [hdl]; exact (List.getElem?_eq_some_iff.mp hv).1
      exact ⟨_, List.getElem?_eq_getElem hj⟩
    obtain ⟨y, hy, rxy⟩ := rr.get hd
    have exy : y = x := Option.some.inj (hy.symm.trans hx)
    subst exy
    obtain ⟨kd, hkd, hC⟩ := keysOf_at hk hd
    have rx : RelP Hi (Live zi []) d y := RelP.mono (fun b o h _ => more b o h) (fun b o h n q => (grow.2 b (live_nil q)).elim (fun g => n (.inl g)) fun g => by rw [h] at g; cases g) d y rxy
    have Ip := Ii.pinned (fp := [a, kS]) (fun b hb => by
      rcases List.mem_cons.mp hb with rfl | hb
      · exact fpA na
      · rw [List.mem_singleton.mp hb]; exact fpK nk) (fun b hb => by
      rcases List.mem_cons.mp hb with rfl | hb
      · exact ⟨_, ga, fun v q => by cases q⟩
      · rw [List.mem_singleton.mp hb]; exact ⟨_, gk, fun v q => by cases q⟩)
    refine wpAny_bind (key_call rfl room gd F hb Ip Ri rvx rx hC fun u s2 H2 z2 w I2 rw2 t2 R2 r2 => ?_)
    have pinA := I2.pin (a, _) (List.mem_append_right _ (List.mem_append_right _ (mem_pinsAt (List.mem_cons_self ..) ga)))
    have pinK := I2.pin (kS, _) (List.mem_append_right _ (List.mem_append_right _ (mem_pinsAt (by simp) gk)))
    have gk2 : s2.heap.get? kS = some (seqObj "list" raw.toArray e) := pinK.1
    have ga2 : s2.heap.get? a = some (seqObj "list" #[] e1) := pinA.1
    have nk2 : H2 kS = none := pinK.2.1
    have na2 : H2 a = none := pinA.2.1
    have hraw : raw.length ≤ its.length := by
      have h1 := rk.length
      rw [List.length_take] at h1
      have h2 := vk.length
      omega
    dsimp only
    obtain ⟨c2, hc2⟩ : ∃ c2, (s2.heap.update kS (Obj.mapSeq (·.push u))).get? kS = some (seqObj "list" (raw.toArray.push u) c2) := ⟨_, get?_update_seq gk2 (·.push u)⟩
    refine wpAny_bind (listUpdate_at gk2 rfl ?_ (by rw [List.size_toArray]; omega) (by rw [Array.size_push, List.size_toArray]; omega))
    have same := Heap.SameBut.update s2.heap kS (Obj.mapSeq (·.push u))
    obtain ⟨f0, f1, f2, f3, f4, f5⟩ := fpK nk2
    have I3 : L2.Inv X pins σ H2 { s2 with heap := s2.heap.update kS (Obj.mapSeq (·.push u)) } := (I2.unpinned).turned (t' := s2.toks) (fun b o hb e => (same.2 b hb).trans e) f0 f1 f3 f4 f5
    refine wpAny_pure ⟨rfl, H2, z2, kv ++ [w], raw ++ [u], c2, I3, na2, nk2, ?_, (same.2 a hka.symm).trans ga2, fun b o h => t2.keep b o (more b o h) fun ⟨i, hi, _⟩ => absurd hi (Nat.not_lt_zero _), ⟨fun b h => t2.rz.1 b (grow.1 b h), fun b h => (t2.rz.2 b h).elim (grow.2 b) fun n => .inr ?_⟩, R2, ?_, ?_⟩
    · show (s2.heap.update kS (Obj.mapSeq (·.push u))).get? kS = _
      rw [hc2]
      congr 2
      rw [List.push_toArray]
    · cases q : H b with
      | none => rfl
      | some o => rw [more b o q] at n; cases n
    · have et : ks.take (j + 1) = ks.take j ++ [kd] := by rw [List.take_add_one, hkd]; rfl
      rw [et]
      exact (rk.tr t2).append (RelPs.one r2)
    · exact vals_snoc vk rw2
  case done =>
    rintro s' ⟨Hi, zi, kv, raw, e, Ii, na, nk, gk, ga, more, grow, Ri, rk, vk⟩
    have et : ks.take (0 + its.length) = ks := List.take_of_length_le (by omega)
    rw [et] at rk
    obtain ⟨as, rds⟩ := Dp.readsAll Ii ks _ _ (dps_of ks _ rk) vk
    have er : EachIs (fun v d => ∃ as, Reads s'.heap v d as) raw ks := by
      have q := PySem.W.readsAll_each (enc := id) (bs := ks) (by rw [List.map_id]; exact rds)
      exact q
    have hraw : raw.length = its.length := by rw [← vk.length, ← rk.length, hkl, hdl]
    refine wpAny_bind (listItems_at gk rfl ?_)
    have hx : ∀ b, b ≠ a → b ≠ kS → upd (upd (fun _ => none : Hp) a (.lst [])) kS (.lst []) b = none := fun b h1 h2 => by rw [upd_ne h2, upd_ne h1]
    refine PySem.W.keyH_end (κ := PySem.W.dataKind s'.heap ks) (h₁ := hidT s'.heap (upd (upd (fun _ => none : Hp) a (.lst [])) kS (.lst []))) (fun b o _ e => (of_hidT e).1) ?_ gk ga hka
      (PySem.W.SortsAt.data (s := s') (A := X.A.in1.in1) (by simpa using er) (sort_alike ok) (sort_able ok) fun d hd => ?_) (by rw [List.size_toArray]; exact hraw) hzi fun h' tk c kp' g' => ?_
    · cases q2 : (hidT s'.heap (upd (upd (fun _ => none : Hp) a (.lst [])) kS (.lst []))).get? kS with
      | none => rfl
      | some o =>
        have := (of_hidT q2).2
        rw [upd_same] at this
        cases this
    · have h1 := sort_deep ok hd
      have h2 : X.A.in1.in1.units = X.A.units + 1 + 1 := rfl
      omega
    · refine ⟨.none, rfl, ?_⟩
      have out : PySem.W.KeyedOut false ((ds.zip ks).map Prod.snd) its (PySem.W.sortVals (PySem.W.dataKind s'.heap ks) false raw its) := by
        have e2 : (ds.zip ks).map Prod.snd = ks := List.map_snd_zip (by omega)
        rw [e2]
        exact ⟨s'.heap, raw, sort_alike ok, rfl, er⟩
      have each := PySem.W.keyedOut_each (R := fun v (p : PyData × PyData) => Std H (Live z S) v p.1) Prod.snd out (each_zip (std_of rr rv) (by omega))
      obtain ⟨ys, ry, vy⟩ := of_std (PySem.W.each_map (R := Std H (Live z S)) Prod.fst each)
      have kept : ∀ b o, b ∉ [a, kS] → s'.heap.get? b = some o → h'.get? b = some o := fun b o hb e => by
        have n1 : b ≠ a := fun z => hb (by simp [z])
        have n2 : b ≠ kS := fun z => hb (by simp [z])
        exact kp' b o n1 (hidT_get e (hx b n1 n2))
      have I2 : L2.Inv X pins σ Hi { s' with heap := h', toks := tk } := Ii.turnedL (t' := tk) kept fun b hb => by
        rcases List.mem_cons.mp hb with rfl | hb
        · exact fpA na
        · rw [List.mem_singleton.mp hb]; exact fpK nk
      have hlen : (PySem.W.sortVals (PySem.W.dataKind s'.heap ks) false raw its).length ≤ sizeLine := by
        rw [PySem.W.sortVals_length false hraw]
        exact hzi
      refine ⟨.ref a, upd Hi a (.lst ys), I2.take (h' := h') (t' := tk) (fun b ob _ e => e) (fpA na) ⟨by rw [vy.length]; exact hlen, _, c, vy, g'⟩, rfl, q Hi ys a more nA na ry⟩
end
end Ev
end
section
set_option maxRecDepth 100000
set_option maxHeartbeats 4000000
/-! EvT8: the rule for sorted(e, key=f). -/
namespace Ev
open PySem PySem.Spec PyProof.Rows L2
open PySem.W (dataLe)
section
variable {X : Cx} {W : WS} {C : Calls} {k : Nat} {f : Addr} {fd : FuncData} {ps : List Str} {key : String} {e : Expr} {me : ME} {p fp kpos pos : Pos} {fx : Str}
def rSortK (X : Cx) (f : Addr) (key : String) (C : Calls) : List V → List V → Hp → VK → Prop := fun vs zs H Q => ∃ (l : Addr) (xs : List V) (z : Z) (S : Sto) (ds ks : List PyData), vs = [.ref l] ∧ zs = [.ref f] ∧ (SqL X.K H l xs ∨ SqT X.K H l xs) ∧ Rep z S H ∧ RelPs H (Live z S) ds xs ∧ keysOf C key ds S = some ks ∧ sortOk ks = true ∧
  ∀ H' ys p, (∀ b o, H b = some o → H' b = some o) → H p = none → H' p = none → RelPs H (Live z S) (((ds.zip ks).mergeSort (dataLe false (·.2))).map (·.1)) ys → Q (.ref p) (upd H' p (.lst ys))
theorem cr_sortK (g : Good X W (k + 1)) (F : FnOkG X.prog X.w X.K X.mg X.base k f fd ps (spEv X.mg 1 C key)) (hb : Binds X.K fd ps []) : CallRK X (.builtin "sorted") [Str.ofString "key"] (rSortK X f key C) := by
  intro pins s σ H xs zs us ws Q I r r2 h
  obtain ⟨l, ys, z, S, ds, ks, rfl, rfl, hs, R, rr, hk, ok, q⟩ := h
  rw [Vals.ref1 r]
  have ew : ws = [Value.ref f] := by
    obtain ⟨w, rfl, rw'⟩ := vals1 r2
    rw [show w = Value.ref f from rw']
  subst ew
  exact sortK_run g.calm g.room g.gd F hb I hs R rr hk ok q
theorem e_sortK (m : Bool) (g : Good X W (k + 1)) (F : FnOkG X.prog X.w X.K X.mg X.base k f fd ps (spEv X.mg 1 C key)) (hb : Binds X.K fd ps []) (hmf : X.mg fx = some (.ref f)) (hm : X.mg "sorted" = none) (he : PE X e (rdE C W me)) (hgf : Gl X fx := by rfl) (hg : Gl X "sorted" := by rfl) (hdb : (fx == ("__debug__" : Str)) = false := by decide)
    (hs : starEach [e] X.env = (false, eval e X.env) :: starEach [] X.env := by rfl) (hs2 : backTo pos (starEach [e] X.env) = (false, eval e X.env) :: backTo pos (starEach [] X.env) := by rfl) (hpl : (backTo pos (starEach [e] X.env)).any (·.1) = false := by rfl)
    (hall : (backToKw pos (keywordEach [⟨some (Str.ofString "key"), .Name fx fp, kpos⟩] X.env)).all (·.1.isSome) = true := by rfl) (hnone : (backToKw pos (keywordEach [⟨some (Str.ofString "key"), .Name fx fp, kpos⟩] X.env)).any (·.1.isNone) = false := by rfl)
    (hks : (backToKw pos (keywordEach [⟨some (Str.ofString "key"), .Name fx fp, kpos⟩] X.env)).filterMap (·.1) = [Str.ofString "key"] := by rfl) :
    PE X (.Call (.Name "sorted" p) [e] [⟨some (Str.ofString "key"), .Name fx fp, kpos⟩] pos) (rdE C W (.sortK m key me)) :=
  PE.imp (pe_callBK (cr_sortK g F hb) hg hm (by rfl) (pa_cons he pa_nil hs) (pk_cons (pe_glob hgf hmf (v := .ref f) rfl hdb) pk_nil) (by decide) (by decide) hs2 hpl hall hnone hks) fun σ H Q ⟨z, l, S, hl, R, h⟩ => by
    unfold evalE at h
    refine seqE hl R h fun u H1 z1 S1 x a1 rx => ?_
    have h1 := a1.h
    cases ex : seqV S1 x with
    | none => rw [ex] at h1; exact h1.elim
    | some xs =>
      rw [ex] at h1
      dsimp only at h1
      cases ek : keysOf C key xs S1 with
      | none => rw [ek] at h1; exact h1.elim
      | some ks =>
        rw [ek] at h1
        have h1 : Post W l z1 S1 H1 (bNew m (sortedK (xs.zip ks)) S1) (fun v z' S' H' => ∀ u, RelD z' S' H' v u → Q u H') := h1
        unfold sortedK at h1
        by_cases c : sortOk ((xs.zip ks).map (·.2)) = true ∧ (xs.zip ks).length ≤ LIM
        · rw [if_pos c] at h1
          obtain ⟨a, ys, rfl, rr, dd⟩ := seqV_rel a1.R ex rx
          have e2 : (xs.zip ks).map Prod.snd = ks := List.map_snd_zip (by rw [keysOf_len ek]; exact Nat.le_refl _)
          have ok : sortOk ks = true := by rw [← e2]; exact c.1
          refine ⟨a, ys, z1, S1, xs, ks, rfl, rfl, dd.elim (fun q => .inl (.inl q)) (fun q => .inr (.inl q.1)), a1.R, rr, ek, ok, fun H' zs p more hp hp' rz => ?_⟩
          obtain ⟨t, R'⟩ := a1.R.more more
          obtain ⟨w, z', S', k1, r1⟩ := new_list R' hp' (rz.tr t) (Post.tr h1 t R')
          exact k1 _ r1
        · rw [if_neg c] at h1; exact h1.elim
end
end Ev
end
section
set_option maxRecDepth 100000
set_option maxHeartbeats 4000000
/-! EvG: the rules as the generator writes them. -/
namespace Ev
open PySem PySem.Spec PyProof.Rows L2
section
variable {X : Cx} {W : WS} {C : Calls} {k : Nat} {a b c d e : Expr} {es : List Expr} {ma mb mc md me : ME} {ms : List ME} {pos p : Pos}
theorem x_eq (g : Good X W k) (ha : PE X a (rdE C W ma)) (hb : PE X b (rdE C W mb)) : PE X (.Compare a [.Eq] [b] pos) (rdE C W (.cmp .eq ma mb)) := e_cmp (op_eqD g.un) kEq (nobehind _ (by decide) (by decide)) ha hb
theorem x_ne (g : Good X W k) (ha : PE X a (rdE C W ma)) (hb : PE X b (rdE C W mb)) : PE X (.Compare a [.NotEq] [b] pos) (rdE C W (.cmp .ne ma mb)) := e_cmp (op_neD g.un) kNe (nobehind _ (by decide) (by decide)) ha hb
theorem x_lt (ha : PE X a (rdE C W ma)) (hb : PE X b (rdE C W mb)) : PE X (.Compare a [.Lt] [b] pos) (rdE C W (.cmp .lt ma mb)) := e_cmp op_lt kLt (nobehind _ (by decide) (by decide)) ha hb
theorem x_gt (ha : PE X a (rdE C W ma)) (hb : PE X b (rdE C W mb)) : PE X (.Compare a [.Gt] [b] pos) (rdE C W (.cmp .gt ma mb)) := e_cmp op_gt kGt (nobehind _ (by decide) (by decide)) ha hb
theorem x_ge (ha : PE X a (rdE C W ma)) (hb : PE X b (rdE C W mb)) : PE X (.Compare a [.GtE] [b] pos) (rdE C W (.cmp .ge ma mb)) := e_cmp op_ge kGe (nobehind _ (by decide) (by decide)) ha hb
theorem op_leA (g : Good X W k) : OpR X (compareOp .LtE) (fun x y H Q => rI0 (fun i j => V.bl (decide (i ≤ j))) x y H Q ∨ rLeT X.K x y H Q) := op_le.or (op_leT (by have := g.un; omega))
theorem x_le (g : Good X W k) (ha : PE X a (rdE C W ma)) (hb : PE X b (rdE C W mb)) : PE X (.Compare a [.LtE] [b] pos) (rdE C W (.cmp .le ma mb)) := e_cmp (op_leA g) kLe (nobehind _ (by decide) (by decide)) ha hb
theorem x_isN {j} {q : Pos} (ha : PE X a (rdE C W ma)) : PE X (.Compare a [.Is] [.Constant .none j q] pos) (rdE C W (.cmp .isN ma (.lit .none))) := e_cmp op_isN kIsN (nobehind _ (by decide) (by decide)) ha e_none
theorem x_notN {j} {q : Pos} (ha : PE X a (rdE C W ma)) : PE X (.Compare a [.IsNot] [.Constant .none j q] pos) (rdE C W (.cmp .notN ma (.lit .none))) := e_cmp op_notN kNotN (nobehind _ (by decide) (by decide)) ha e_none
theorem x_inL (g : Good X W k) (hm : behindInMarks .In b = false) (ha : PE X a (rdE C W ma)) (hb : PE X b (rdE C W mb)) : PE X (.Compare a [.In] [b] pos) (rdE C W (.cmp .isIn ma mb)) := e_cmp (op_inD (by have := g.u66; omega)) kIn hm ha hb
theorem x_notinL (g : Good X W k) (hm : behindInMarks .NotIn b = false) (ha : PE X a (rdE C W ma)) (hb : PE X b (rdE C W mb)) : PE X (.Compare a [.NotIn] [b] pos) (rdE C W (.cmp .notIn ma mb)) := e_cmp (op_notInD (by have := g.u66; omega)) kNotIn hm ha hb
/-- a ≤ b ≤ c and the like, ints -/
theorem x_leLe (g : Good X W k) (ha : PE X a (rdE C W ma)) (hb : PE X b (rdE C W mb)) (hc : PE X c (rdE C W mc)) (hm : lastMarks [.LtE, .LtE] [b, c] = false := by with_unfolding_all rfl) : PE X (.Compare a [.LtE, .LtE] [b, c] pos) (rdE C W (.chain2 ma .le mb .le mc)) := e_chain2 (op_leA g) (op_leA g) kLe kLe ha hb hc hm
theorem x_leLtLt (g : Good X W k) (ha : PE X a (rdE C W ma)) (hb : PE X b (rdE C W mb)) (hc : PE X c (rdE C W mc)) (hd : PE X d (rdE C W md)) (hm : lastMarks [.LtE, .Lt, .Lt] [b, c, d] = false := by with_unfolding_all rfl) : PE X (.Compare a [.LtE, .Lt, .Lt] [b, c, d] pos) (rdE C W (.chain3 ma .le mb .lt mc .lt md)) := e_chain3 (op_leA g) op_lt op_lt kLe kLt kLt ha hb hc hd hm
end
theorem ok_zero {P : Program} {w : World} {K : PySem.W.Frag} {mg : Str → Option Value} {base : Heap} {f : Addr} {fd : FuncData} {ps : List Str} {n wn k : Nat} {T : String → Option Fn} {key : String} (h : n = ps.length) : FnOkG P w K mg base k f fd ps (spEv mg n (callF T wn 0) key) :=
  ⟨fun vs H Q E ⟨h1, _⟩ => h1.trans h, fun A outer s H args us vs Q E _ _ _ _ _ ⟨_, z, S, as, _, _, h⟩ => h.elim⟩
theorem FnOkG.up {P : Program} {w : World} {K : PySem.W.Frag} {mg : Str → Option Value} {base : Heap} {k : Nat} {f : Addr} {fd : FuncData} {ps : List Str} {sp : Sp} (F : FnOkG P w K mg base k f fd ps sp) : FnOkG P w K mg base (k + 1) f fd ps sp :=
  ⟨F.len, fun A outer s H args us vs Q E hr => F.run A outer s H args us vs Q E (hr.mono (Nat.le_succ _))⟩
end Ev
end
section
namespace Ev
variable {C : Calls}
theorem plain_cmp {o a b} : PlainT C (.cmp o a b) := fun l S => by unfold evalT; rfl
theorem plain_var {i} : PlainT C (.var i) := fun l S => by unfold evalT; rfl
theorem plain_chain2 {a o b o' c} : PlainT C (.chain2 a o b o' c) := fun l S => by unfold evalT; rfl
theorem plain_chain3 {a o b o' c o'' d} : PlainT C (.chain3 a o b o' c o'' d) := fun l S => by unfold evalT; rfl
theorem plain_call {f es} : PlainT C (.call f es) := fun l S => by unfold evalT; rfl
theorem plain_bi {f es} : PlainT C (.bi f es) := fun l S => by unfold evalT; rfl
theorem plain_inD {n a b} : PlainT C (.inD n a b) := fun l S => by unfold evalT; rfl
theorem plain_ix {a b} : PlainT C (.ix a b) := fun l S => by unfold evalT; rfl
theorem plain_lit {a} : PlainT C (.lit a) := fun l S => by unfold evalT; rfl
theorem plain_bin {o a b} : PlainT C (.bin o a b) := fun l S => by unfold evalT; rfl
theorem plain_ite {o a b} : PlainT C (.ite o a b) := fun l S => by unfold evalT; rfl
theorem plain_sl {o a b} : PlainT C (.sl o a b) := fun l S => by unfold evalT; rfl
theorem plain_meth {o a b} : PlainT C (.meth o a b) := fun l S => by unfold evalT; rfl
open PySem PySem.Spec PyProof.Rows L2
theorem pg_loc {X : Cx} {pos : Pos} (i : Nat) {x : Str} (hN : X.N.Nodup) (hi : X.N[i]? = some x := by rfl) (hx : L2.Loc X.env.scope x := by first | exact Or.inl rfl | exact Or.inr rfl) (hf : X.fn x = true ∨ X.env.scope.names.lookup x = some .local := by first | exact .inl rfl | exact .inr rfl | assumption) : PG X (.Name x pos) (gName i) := pg_name hN hi hx hf
set_option maxHeartbeats 4000000
/-- a term whose value is a truth value -/
def BoolT (C : Calls) (m : ME) : Prop := ∀ l S v S', evalE C m l S = .ok v S' → ∃ k, v = .d (.bool k)
theorem test_rd {W : WS} {m : ME} {σ : L2.St} {H : Hp} {Q : Bool → Hp → Prop} (hp : PlainT C m) (hb : BoolT C m) (h : rdT C W m σ H Q) : rdE C W m σ H (fun x H' => ∃ k, x = .bl k ∧ Q k H') := by
  obtain ⟨z, l, S, hl, R, h⟩ := h
  refine ⟨z, l, S, hl, R, ?_⟩
  rw [hp] at h
  revert h
  cases q : evalE C m l S with
  | ok v S1 =>
    obtain ⟨k, rfl⟩ := hb l S v S1 q
    intro h z' H' t R' u ru
    have h : Post W l z S H (.ok k S1) (fun b _ _ H' => Q b H') := h
    exact ⟨k, rel_bool R' rfl ru, h z' H' t R'⟩
  | err c x S1 => exact id
  | stuck => exact id
theorem ofO_ok {α : Type} {o : Option α} {S S' : Sto} {v : α} (h : ofO o S = .ok v S') : o = some v := by
  cases o with
  | none => cases h
  | some w => cases h; rfl
theorem bool_cmp {o : Cmp} {a b : ME} : BoolT C (.cmp o a b) := fun l S v S' h => by
  unfold evalE at h
  obtain ⟨x, S1, _, h⟩ := bind_ok h
  obtain ⟨y, S2, _, h⟩ := bind_ok h
  have h := ofO_ok h
  obtain ⟨p, _, h⟩ := Option.bind_eq_some_iff.mp h
  obtain ⟨q, _, h⟩ := Option.bind_eq_some_iff.mp h
  obtain ⟨k, _, h⟩ := Option.map_eq_some_iff.mp h
  exact ⟨k, h.symm⟩
theorem bool_inD {n : Bool} {a b : ME} : BoolT C (.inD n a b) := fun l S v S' h => by
  unfold evalE at h
  obtain ⟨x, S1, _, h⟩ := bind_ok h
  obtain ⟨y, S2, _, h⟩ := bind_ok h
  have h := ofO_ok h
  obtain ⟨p, _, h⟩ := Option.bind_eq_some_iff.mp h
  obtain ⟨q, _, h⟩ := Option.bind_eq_some_iff.mp h
  obtain ⟨k, _, h⟩ := Option.map_eq_some_iff.mp h
  exact ⟨_, h.symm⟩
theorem bool_chain2 {o o' : Cmp} {a b c : ME} : BoolT C (.chain2 a o b o' c) := fun l S v S' h => by
  unfold evalE at h
  obtain ⟨x, S1, _, h⟩ := bind_ok h
  obtain ⟨y, S2, _, h⟩ := bind_ok h
  obtain ⟨k, S3, _, h⟩ := bind_ok h
  cases k with
  | false => rw [if_neg Bool.false_ne_true] at h; cases h; exact ⟨false, rfl⟩
  | true =>
    rw [if_pos rfl] at h
    obtain ⟨w, S4, _, h⟩ := bind_ok h
    have h := ofO_ok h
    obtain ⟨p, _, h⟩ := Option.bind_eq_some_iff.mp h
    obtain ⟨q, _, h⟩ := Option.bind_eq_some_iff.mp h
    obtain ⟨k, _, h⟩ := Option.map_eq_some_iff.mp h
    exact ⟨_, h.symm⟩
section
variable {X : Cx} {W : WS} {a b c : Expr} {ma mb mc : ME} {pos : Pos}
theorem t_cmp {o : Cmp} {op : CmpOp} {r : R2} (ho : OpR X (compareOp op) r) (hk : OpOk r (cmpD o)) (hm : behindInMarks op b = false) (ha : PE X a (rdE C W ma)) (hb : PE X b (rdE C W mb)) : PT X (.Compare a [op] [b] pos) (rdT C W (.cmp o ma mb)) :=
  PT.imp (pt_cmpR ho ha hb hm) fun σ H Q h => by
    obtain ⟨z, l, S, hl, R, h⟩ := test_rd plain_cmp bool_cmp h
    unfold evalE at h
    refine bin_ok (f := cmpD o) hk hl R ?_
    simpa only [cmpD, Option.map_map, Function.comp_def] using h
theorem t_in (hu : X.A.units + 1 < cLine) (ha : PE X a (rdE C W ma)) (hb : PE X b (rdE C W mb)) (hm : behindInMarks .In b = false := by rfl) : PT X (.Compare a [.In] [b] pos) (rdT C W (.inD false ma mb)) :=
  PT.imp (pt_cmp (pc_din hu ha hb) hm) fun σ H Q h => by
    obtain ⟨z, l, S, hl, R, h⟩ := test_rd plain_inD bool_inD h
    unfold evalE at h
    refine seqE hl R h fun u H1 z1 S1 x a1 rx => ?_
    refine seqE a1.L a1.R a1.h fun v H2 z2 S2 y a2 ry => ?_
    exact in_ok a2.R (rx.tr a2.t) ry a2.h
theorem t_notin (hu : X.A.units + 1 < cLine) (ha : PE X a (rdE C W ma)) (hb : PE X b (rdE C W mb)) (hm : behindInMarks .NotIn b = false := by rfl) : PT X (.Compare a [.NotIn] [b] pos) (rdT C W (.inD true ma mb)) :=
  PT.imp (pt_cmp (pc_dnotin hu ha hb) hm) fun σ H Q h => by
    obtain ⟨z, l, S, hl, R, h⟩ := test_rd plain_inD bool_inD h
    unfold evalE at h
    refine seqE hl R h fun u H1 z1 S1 x a1 rx => ?_
    refine seqE a1.L a1.R a1.h fun v H2 z2 S2 y a2 ry => ?_
    exact in_ok a2.R (rx.tr a2.t) ry a2.h
theorem t_chain2 {o o' : Cmp} {op op' : CmpOp} {r r' : R2} (ho : OpR X (compareOp op) r) (ho' : OpR X (compareOp op') r') (hk : OpOk r (cmpD o)) (hk' : OpOk r' (cmpD o')) (ha : PE X a (rdE C W ma)) (hb : PE X b (rdE C W mb)) (hc : PE X c (rdE C W mc))
    (hm : lastMarks [op, op'] [b, c] = false := by with_unfolding_all rfl) : PT X (.Compare a [op, op'] [b, c] pos) (rdT C W (.chain2 ma o mb o' mc)) :=
  PT.imp (pt_chain ho ho' ha hb hc hm) fun σ H Q h => by
    obtain ⟨z, l, S, hl, R, h⟩ := test_rd plain_chain2 bool_chain2 h
    unfold evalE at h
    refine seqE hl R h fun u H1 z1 S1 x a1 rx => ?_
    refine seqE a1.L a1.R a1.h fun v H2 z2 S2 y a2 ry => ?_
    refine chain_step hk a2.L a2.R (rx.tr a2.t) ry a2.h fun kk H3 t3 R3 h3 => ⟨kk, rfl, ?_⟩
    cases kk with
    | false => rw [if_neg Bool.false_ne_true] at h3 ⊢; exact Post.ok R3 h3 _ rD_b
    | true =>
      rw [if_pos rfl] at h3 ⊢
      refine seqE (a2.L.tr t3) R3 h3 fun w H4 z4 S4 y' a4 rw' => ?_
      exact chain_end hk' a4.R ((ry.tr t3).tr a4.t) rw' a4.h
end
end Ev
end
section
set_option maxRecDepth 100000
set_option maxHeartbeats 4000000
/-! EvT9: three comparisons in a row as a test. -/
namespace Ev
open PySem PySem.Spec PyProof.Rows L2
section
variable {X : Cx} {W : WS} {C : Calls} {a b c d e : Expr} {ma mb mc md me : ME} {pos : Pos}
theorem pt_chain3 {op op' op'' : CmpOp} {r r' r'' : R2} {ta tb tc td : TE} (ho : OpR X (compareOp op) r) (ho' : OpR X (compareOp op') r') (ho'' : OpR X (compareOp op'') r'') (ha : PE X a ta) (hb : PE X b tb) (hc : PE X c tc) (hd : PE X d td)
    (hm : lastMarks [op, op', op''] [b, c, d] = false := by with_unfolding_all rfl) : PT X (.Compare a [op, op', op''] [b, c, d] pos) (tTest (tChain3 r r' r'' ta tb tc td)) := by
  refine ⟨fun pins s σ H Q I h => isTrue_chain (thn (ha.run pins s σ H _ I h) fun v1 s1 ⟨x, H1, I1, r1, q1⟩ => ?_) hm⟩
  refine test_link (thn (hb.run pins s1 σ H1 _ I1 q1) fun v2 s2 ⟨y, H2, I2, r2, q2⟩ => thn (ho pins s2 σ H2 x y v1 v2 _ I2 r1 r2 q2) fun v3 s3 ⟨z, H3, I3, r3, k, e3, q3⟩ => ?_)
  subst e3
  cases r3
  refine wpAny_truthy_bool ?_
  cases k with
  | false =>
    obtain ⟨k', e', q'⟩ := q3
    cases e'
    exact ite_ff ⟨H3, I3, q'⟩
  | true =>
    refine ite_tt (test_link (thn (hc.run pins s3 σ H3 _ I3 q3) fun v4 s4 ⟨w, H4, I4, r4, q4⟩ => thn (ho' pins s4 σ H4 y w v2 v4 _ I4 r2 r4 q4) fun v5 s5 ⟨z', H5, I5, r5, k', e5, q5⟩ => ?_))
    subst e5
    cases r5
    refine wpAny_truthy_bool ?_
    cases k' with
    | false =>
      obtain ⟨k2, e', q'⟩ := q5
      cases e'
      exact ite_ff ⟨H5, I5, q'⟩
    | true =>
      refine ite_tt (test_last (thn (hd.run pins s5 σ H5 _ I5 q5) fun v6 s6 ⟨v, H6, I6, r6, q6⟩ => thn (ho'' pins s6 σ H6 w v v4 v6 _ I6 r4 r6 q6) fun d' s7 ⟨z2, H7, I7, r7, k2, e2, q7⟩ => ?_))
      subst e2
      cases r7
      exact wpAny_truthy_bool ⟨H7, I7, q7⟩
theorem bool_chain3 {o o' o'' : Cmp} {a b c d : ME} : BoolT C (.chain3 a o b o' c o'' d) := fun l S v S' h => by
  unfold evalE at h
  obtain ⟨x, S1, _, h⟩ := bind_ok h
  obtain ⟨y, S2, _, h⟩ := bind_ok h
  obtain ⟨k, S3, _, h⟩ := bind_ok h
  cases k with
  | false => rw [if_neg Bool.false_ne_true] at h; cases h; exact ⟨false, rfl⟩
  | true =>
    rw [if_pos rfl] at h
    obtain ⟨w, S4, _, h⟩ := bind_ok h
    obtain ⟨k2, S5, _, h⟩ := bind_ok h
    cases k2 with
    | false => rw [if_neg Bool.false_ne_true] at h; cases h; exact ⟨false, rfl⟩
    | true =>
      rw [if_pos rfl] at h
      obtain ⟨u, S6, _, h⟩ := bind_ok h
      have h := ofO_ok h
      obtain ⟨p, _, h⟩ := Option.bind_eq_some_iff.mp h
      obtain ⟨q, _, h⟩ := Option.bind_eq_some_iff.mp h
      obtain ⟨k, _, h⟩ := Option.map_eq_some_iff.mp h
      exact ⟨_, h.symm⟩
theorem t_chain3 {o o' o'' : Cmp} {op op' op'' : CmpOp} {r r' r'' : R2} (ho : OpR X (compareOp op) r) (ho' : OpR X (compareOp op') r') (ho'' : OpR X (compareOp op'') r'') (hk : OpOk r (cmpD o)) (hk' : OpOk r' (cmpD o')) (hk'' : OpOk r'' (cmpD o''))
    (ha : PE X a (rdE C W ma)) (hb : PE X b (rdE C W mb)) (hc : PE X c (rdE C W mc)) (hd : PE X d (rdE C W md)) (hm : lastMarks [op, op', op''] [b, c, d] = false := by with_unfolding_all rfl) :
    PT X (.Compare a [op, op', op''] [b, c, d] pos) (rdT C W (.chain3 ma o mb o' mc o'' md)) :=
  PT.imp (pt_chain3 ho ho' ho'' ha hb hc hd hm) fun σ H Q h => by
    obtain ⟨z, l, S, hl, R, h⟩ := test_rd plain_chain3 bool_chain3 h
    unfold evalE at h
    refine seqE hl R h fun u H1 z1 S1 x a1 rx => ?_
    refine seqE a1.L a1.R a1.h fun v H2 z2 S2 y a2 ry => ?_
    refine chain_step hk a2.L a2.R (rx.tr a2.t) ry a2.h fun kk H3 t3 R3 h3 => ⟨kk, rfl, ?_⟩
    cases kk with
    | false => rw [if_neg Bool.false_ne_true] at h3 ⊢; exact Post.ok R3 h3 _ rD_b
    | true =>
      rw [if_pos rfl] at h3 ⊢
      refine seqE (a2.L.tr t3) R3 h3 fun w H4 z4 S4 y' a4 rw' => ?_
      refine chain_step hk' a4.L a4.R ((ry.tr t3).tr a4.t) rw' a4.h fun k5 H5 t5 R5 h5 => ⟨k5, rfl, ?_⟩
      cases k5 with
      | false => rw [if_neg Bool.false_ne_true] at h5 ⊢; exact Post.ok R5 h5 _ rD_b
      | true =>
        rw [if_pos rfl] at h5 ⊢
        refine seqE (a4.L.tr t5) R5 h5 fun v6 H6 z6 S6 y6 a6 r6 => ?_
        exact chain_end hk'' a6.R ((rw'.tr t5).tr a6.t) r6 a6.h
end
end Ev
end
section
set_option maxRecDepth 100000
set_option maxHeartbeats 4000000
/-! EvT10: xs.index(k); o[i], p[j] = v, w. -/
namespace Ev
open PySem PySem.Spec PyProof.Rows L2
section
variable {X : Cx} {W : WS} {C : Calls} {n : Nat} {a b c d e o : Expr} {ma mb mc md me mo : ME} {ms : List ME} {pos : Pos}
theorem relPs_ints {H : Hp} {L : Addr → Prop} : ∀ {is : List Int} {xs : List PyData} {ys : List V}, intsOf xs = some is → RelPs H L xs ys → ys = is.map V.int
  | is, [], ys, e, r => by
    cases e
    unfold RelPs at r
    exact r
  | is, x :: xs, ys, e, r => by
    cases x with
    | int i =>
      have e : (intsOf xs).map (i :: ·) = some is := e
      obtain ⟨js, e1, e2⟩ := Option.map_eq_some_iff.mp e
      subst e2
      unfold RelPs at r
      obtain ⟨y, t, h1, h2, h3⟩ := r
      have h2 : y = V.int i := by unfold RelP at h2; exact h2
      rw [h1, h2, relPs_ints e1 h3]
      rfl
    | _ => cases e
theorem kIndex {K : PySem.W.Frag} : ∀ (W : WS) (l : Loc) (z : Z) (S : Sto) (H : Hp) (o : DV) (x : V) (vs : List DV) (us : List V) (Q : VK), Rep z S H → RelD z S H o x → RelDs z S H vs us →
    Post W l z S H (methP .index o vs S) (fun v z' S' H' => ∀ u, RelD z' S' H' v u → Q u H') → rIndex K x us H Q := by
  intro W l z S H o x vs us Q R ro rs h
  obtain ⟨i, xs, ys, rfl, hi, rfl, g, h1, h2, h3⟩ := at_lst (f := fun i xs => mIndex S xs vs) (b := .index) R ro (fun _ => rfl) h
  clear h
  unfold mIndex at h3
  split at h3
  · rename_i k
    split at h3
    · rename_i is ei
      split at h3
      · rename_i j ej
        obtain ⟨u, rfl, r⟩ := one_of rs
        have e := rel_int R rfl r
        subst e
        have ey := relPs_ints ei h2
        subst ey
        obtain ⟨hj, e1, e2⟩ := List.findIdx?_eq_some_iff_getElem.mp ej
        refine ⟨_, _, .int k, j, .int is[j], rfl, rfl, .inl (.inl h1), rfl, ?_, ?_, ?_, fun m z' hm hz => ?_, ?_⟩
        · rw [List.all_map]
          exact List.all_eq_true.mpr fun _ _ => rfl
        · rw [List.getElem?_map, List.getElem?_eq_getElem hj]; rfl
        · have e1 := of_decide_eq_true e1
          show (is[j] == k) = true
          rw [e1]; exact beq_self_eq_true k
        · rw [List.getElem?_map] at hz
          obtain ⟨q, hq, rfl⟩ := Option.map_eq_some_iff.mp hz
          have e3 := e2 m hm
          obtain ⟨hm2, eq⟩ := List.getElem?_eq_some_iff.mp hq
          subst eq
          have e3 : ¬ (is[m] = k) := fun h => by rw [h] at e3; simp at e3
          show (is[m] == k) = false
          exact beq_eq_false_iff_ne.mpr e3
        · exact h3 _ _ (Tr.refl _ _ _) R _ rD_i
      · exact h3.elim
    · exact h3.elim
  · exact h3.elim
end
end Ev
namespace Ev
open PySem PySem.Spec PyProof.Rows L2
section
variable {X : Cx} {W : WS} {C : Calls} {n : Nat} {a b c d e o i e' o' i' : Expr} {ma mb mo mi mo' mi' me me' : ME} {pos p1 p2 : Pos}
theorem e_index {apos : Pos} (ho : PE X o (rdE C W mo)) (ha : PA X [e] (rdA C W ms)) (hbase : attributeBase o "index" X.env (eval o X.env) = eval o X.env := by rfl)
    (hfew : ((backTo pos (starEach [e] X.env)).all (fun x => !x.1) && (backToKw pos (keywordEach [] X.env)).all (fun x => x.1.isSome)
      && decide ([e].length + ([] : List Keyword).length + (if ([] : List Keyword).isEmpty then 0 else 1) < 30)) = true := by rfl)
    (hline : (apos.endLine == pos.line) = true := by rfl) (hs : starEach [e] X.env = (false, eval e X.env) :: starEach [] X.env := by rfl) : PE X (.Call (.Attribute o "index" apos) [e] [] pos) (rdE C W (.meth .index mo ms)) :=
  e_meth PySem.F.slot_list_index PySem.F.type_list_index mt_index (fun K => kIndex) ho ha hbase hfew hline hs
theorem set_mono {x y u : V} {H : Hp} {Q1 Q2 : Hp → Prop} (h : rSetA x y u H Q1) (m : ∀ H', Q1 H' → Q2 H') : rSetA x y u H Q2 := by
  rcases h with q | q
  · obtain ⟨p, xs, k, j, e1, e2, h1, h2, h3⟩ := q
    exact .inl ⟨p, xs, k, j, e1, e2, h1, h2, m _ h3⟩
  · obtain ⟨a, H', e1, g, h3⟩ := q
    exact .inr ⟨a, H', e1, g, m _ h3⟩
/-- what putS asks, from what is known at a store -/
theorem putS_ok {z : Z} {S : Sto} {H : Hp} {l : Loc} {σ : L2.St} {v : DV} {u : V} {k : Sto → SRes} {D : Ends} {Q : L2.St → Hp → Prop} (hl : RelL z S H l σ) (R : Rep z S H) (rv : RelD z S H v u)
    (h : PostS W z S H (putS C mo mi v l S k) D) (go : ∀ z' S' H', Tr z S H z' S' H' → Rep z' S' H' → RelL z' S' H' l σ → PostS W z' S' H' (k S') D → Q σ H') : gSub (rdE C W mo) (rdE C W mi) rSetA u σ H Q := by
  unfold putS at h
  refine seqES hl R h fun x H2 z2 S2 o' a2 ro => ?_
  refine seqES a2.L a2.R a2.h fun y H3 z3 S3 k' a3 rk => ?_
  have h3 := a3.h
  cases e : putIx S3 o' k' v with
  | none => rw [e] at h3; exact h3.elim
  | some S4 =>
    rw [e] at h3
    refine set_mono (put_ok a3.R (ro.tr a3.t) rk ((rv.tr a2.t).tr a3.t) e) fun H4 ⟨t4, R4⟩ => ?_
    exact go _ _ _ ((a2.t.trans a2.R a3.t).trans a3.R t4) R4 (a3.L.tr t4) (PostS.tr h3 t4 R4)
theorem s_par2S {kk k2 : Nat} {pt pt2 : Pos} (hcm : X.calm = true) (hu : X.A.units + 1 < cLine) (he : PA X [a, b] (rdA C W [ma, mb])) (ho : PE X o (rdE C W mo)) (hi : PE X i (rdE C W mi)) (ho' : PE X o' (rdE C W mo')) (hi' : PE X i' (rdE C W mi'))
    (ha : ∀ v, assign (.Subscript o i p1) X.env v = (do
      let ov ← holding [v] (eval o X.env)
      let iv ← holding [v, ov] (eval i X.env)
      standAt p1
      holding [v, ov, iv] (setItem ov iv v)
      release [v, ov, iv] []) := by intro _; rfl)
    (ha' : ∀ v, assign (.Subscript o' i' p2) X.env v = (do
      let ov ← holding [v] (eval o' X.env)
      let iv ← holding [v, ov] (eval i' X.env)
      standAt p2
      holding [v, ov, iv] (setItem ov iv v)
      release [v, ov, iv] []) := by intro _; rfl)
    (hn : (assignEach [.Subscript o i p1, .Subscript o' i' p2] X.env).length = 2 := by rfl) (hst : (assignEach [.Subscript o i p1, .Subscript o' i' p2] X.env).findIdx? (·.1) = none := by rfl)
    (hs : swapsWithSole [.Tuple [.Subscript o i p1, .Subscript o' i' p2] kk pt] (.Tuple [a, b] k2 pt2) pos.line X.env = pure false := by rfl) (hw : swappedStores [.Tuple [.Subscript o i p1, .Subscript o' i' p2] kk pt] (.Tuple [a, b] k2 pt2) X.env = pure none := by rfl)
    (h1 : (assignEach [.Tuple [.Subscript o i p1, .Subscript o' i' p2] kk pt] X.env).map (·.2) = [assign (.Tuple [.Subscript o i p1, .Subscript o' i' p2] kk pt) X.env] := by rfl)
    (h2 : (assignEach [.Subscript o i p1, .Subscript o' i' p2] X.env).map (·.2) = assign (.Subscript o i p1) X.env :: (assignEach [.Subscript o' i' p2] X.env).map (·.2) := by rfl) (h3 : (assignEach [.Subscript o' i' p2] X.env).map (·.2) = assign (.Subscript o' i' p2) X.env :: (assignEach [] X.env).map (·.2) := by rfl) :
    PS X (.Assign [.Tuple [.Subscript o i p1, .Subscript o' i' p2] kk pt] (.Tuple [a, b] k2 pt2) pos) (rdS C n W (.par2S mo mi mo' mi' ma mb)) :=
  PS.imp (ps_asg (pe_tup he) (pg_tup hcm (pgs_cons (pg_sub ho hi (set_any hu) ha) (pgs_cons (pg_sub ho' hi' (set_any hu) ha') pgs_nil h3) h2) hn hst) hs hw h1) fun D σ H ⟨z, l, S, hl, R, h⟩ => by
    unfold evalS at h
    refine seqAS hl R h fun us H1 z1 S1 vs a1 rs => ?_
    have hh := a1.h
    rcases vs with _ | ⟨v, _ | ⟨w, _ | ⟨_, _⟩⟩⟩
    · exact hh.elim
    · exact hh.elim
    · obtain ⟨u1, t1, rfl, r1, rs1⟩ := rs
      obtain ⟨u2, t2, rfl, r2, rs2⟩ := rs1
      unfold RelDs at rs2
      subst rs2
      refine ⟨by show (2 : Nat) ≤ sizeLine; decide, fun p hp => ?_⟩
      obtain ⟨t, R'⟩ := a1.R.laid (o := .tup [u1, u2]) hp
      refine ⟨p, [u1, u2], rfl, .inl (.inl upd_same), rfl, u1, [u2], rfl, ?_⟩
      refine putS_ok (a1.L.tr t) R' (r1.tr t) (PostS.tr hh t R') fun z3 S3 H3 t3 R3 L3 k3 => ?_
      refine ⟨u2, [], rfl, ?_⟩
      refine putS_ok L3 R3 ((r2.tr t).tr t3) k3 fun z4 S4 H4 t4 R4 L4 k4 => ?_
      exact ⟨rfl, PostS.next R4 L4 k4⟩
    · exact hh.elim
end
end Ev
end
section
set_option maxRecDepth 100000
set_option maxHeartbeats 4000000
/-! EvT11: sorted(set(xs)), xs a list of ints. -/
namespace Ev
open PySem PySem.Spec PyProof.Rows L2
/-- an empty set, as it is made -/
abbrev emptyS (w : World) : Obj := { cls := .type "set", dict := none, data := .set #[] 0 (.fresh 0 0 (!w.params.followText "set-order")) }
section
variable {P : Program} {w : World} {A : Around} {E : Value → Shared → Prop} {s : Shared}
set_option maxHeartbeats 3200000 in
theorem set_of_list {l : Addr} {its : Array Value} (ns : List Int) {Q : Value → Shared → Prop} (nh : A.handled = none) (hl : s.heap.IsList l its) (hin : IntsAre its.toList ns) (few : ns.length + 1 < scanBound)
    (fin : ∀ (g : Heap) (tk c : Nat), SetR w g s.heap.objs.size (fun j => decide (j ∈ ns)) c → c ≤ ns.length → (∀ b o, s.heap.get? b = some o → g.get? b = some o) → Q (.ref s.heap.objs.size) { s with heap := g, toks := tk }) :
    wpAny (model P w) A (call (.type "set") [.ref l]) Q E s := by
  have many : its.size = ns.length := by rw [← Array.length_toList]; exact IntsAre.length hin
  obtain ⟨cc, tt, mm⟩ := F.called_set.mro
  have x1 := F.called_set.made
  have x2 := F.called_set.sub
  refine wpAny_call (codeAny_of_tree ?_)
  change wpAny _ _ (callAny (.type "set") _) _ _ _
  refine wpAny_pure ⟨Code.quiet_builtin _ (by kernel_rfl), codeAny_builtin F.entry_type_call ?_⟩
  rw [Around.under_plain (weight_type_call_type "set" ([.ref l] : List Value) []) rfl]
  have x3 := F.called_set.notType
  have x4 := F.called_set.canCreate
  have x5 := F.typeCall_set_1 (.ref l)
  repeat (any_goals (first | assumption | wp_step))
  refine codeAny_mono (code_set_led1 (.ref l) (E := E) (Q₁ := fun ob t => ob = .ref s.heap.objs.size ∧ t = { s with heap := s.heap.push (emptyS w) }) ⟨rfl, rfl⟩) fun r t hr => ?_
  cases r with
  | error e => exact hr
  | ok fl =>
    cases fl with
    | ret ob =>
      obtain ⟨rfl, rfl⟩ := hr
      have there : (s.heap.push (emptyS w)).get? s.heap.objs.size = some (emptyS w) := Heap.get?_push_size _ rfl
      have ty : Shared.TypeIs { s with heap := s.heap.push (emptyS w) } (.ref s.heap.objs.size) "set" := ⟨_, there, rfl⟩
      have x6 := F.called_set.init.lookup
      have x7 := F.called_set.init.bind (.ref s.heap.objs.size)
      repeat (any_goals (first | assumption | wp_step))
      refine codeAny_mono (codeAny_call_builtin (R := wants (fun r t2 => r = .none ∧ ∃ g tk c, t2 = { s with heap := g, toks := tk } ∧ SetR w g s.heap.objs.size (fun j => decide (j ∈ ns)) c ∧ c ≤ ns.length ∧
        (∀ b o, s.heap.get? b = some o → g.get? b = some o)) E) F.called_set.init.plain F.entry_set_init (check_set_init_1 ty ?_)) fun r2 t2 hr2 => ?_
      · obtain ⟨⟨lc, ld, lx, ls⟩, hol, hcl, nl, hdl⟩ := hl
        simp only at hcl hdl
        subst hcl; subst hdl
        have hol2 : (s.heap.push (emptyS w)).get? l = some { cls := .type "list", dict := ld, data := .seq its nl, slots := ls } := Heap.get?_push_of_some _ hol
        have x8 := F.sub_list_set
        have x9 := F.sub_list_frozenset
        have y1 : (Value.type "list" == Value.type "dict") = false := by rfl
        have lst : (s.heap.push (emptyS w)).IsList l its := ⟨_, hol2, rfl, nl, rfl⟩
        unfold Builtin.«set.__init__» noKeywords Builtin.Frozenset.updateFrom
        generalize hit : pyIter = PIt
        wp_walk
        subst hit
        refine wpAny_pyIter_list lst (wpAny_bind (wpAny_runValue ?_))
        have lS : l < s.heap.objs.size := Heap.lt_size hol
        have nh3 : A.in1.in1.in1.handled = none := by simp [nh]
        have sz : (s.heap.push (emptyS w)).objs.size = s.heap.objs.size + 1 := Heap.size_push ..
        have nI : l ≠ (s.heap.push (emptyS w)).objs.size := by rw [sz]; exact Nat.ne_of_lt (Nat.lt_succ_of_lt lS)
        have nS : s.heap.objs.size ∉ [(s.heap.push (emptyS w)).objs.size, l] := by
          simp only [List.mem_cons, List.not_mem_nil, or_false, not_or, sz]
          exact ⟨Nat.ne_of_lt (Nat.lt_succ_self _), Nat.ne_of_gt lS⟩
        have vals : ∀ (i : Nat) (v : Value), its[i]? = some v → ∃ k t, ns[i]? = some k ∧ v = .int k t := fun i v hv => by
          have hi : i < ns.length := many ▸ (Array.getElem?_eq_some_iff.mp hv).1
          obtain ⟨t, e⟩ := PyProof.Rows.IntsAre.int_at hin i v ((Array.getElem?_toList ..).trans hv)
          exact ⟨ns[i], t, List.getElem?_eq_getElem hi, by rw [e]; simp [List.getD, hi]⟩
        refine set_update_ints (Walks.list nh3 _ l nI its).toS s.heap.objs.size nS ns many few vals (its.size - 0) 0 _ rfl (Nat.zero_le _) ⟨⟨_, Heap.get?_push_size _ rfl, rfl, rfl⟩, lst.push _⟩
          ⟨0, Nat.le_refl 0, setR_new_at (Heap.get?_push_of_some _ there)⟩ fun s2 c2 hm hc hS => ?_
        obtain ⟨g2, gg, dd, tk2, oo⟩ := s2
        obtain rfl : gg = s.gens := hm.gens
        obtain rfl : dd = s.drawn := hm.drawn
        obtain rfl : oo = s.os := hm.os
        refine wpAny_pure (wpAny_pure ⟨rfl, g2, tk2, c2, rfl, hS, many ▸ hc, fun b o e => ?_⟩)
        have b0 : b < s.heap.objs.size := Heap.lt_size e
        refine hm.heap b o ?_ (Heap.get?_push_of_some _ (Heap.get?_push_of_some _ e))
        simp only [List.mem_cons, List.not_mem_nil, or_false, not_or, sz]
        exact ⟨Nat.ne_of_lt b0, Nat.ne_of_lt (Nat.lt_succ_of_lt b0)⟩
      · cases r2 with
        | error e => exact hr2
        | ok fl2 =>
          cases fl2 with
          | ret r =>
            obtain ⟨rfl, g, tk, c, rfl, hS, hc, hk⟩ := hr2
            repeat (any_goals (first | assumption | wp_step))
            exact fin _ _ _ hS hc hk
          | _ => exact hr2.elim
    | _ => exact hr.elim
end
end Ev
namespace Ev
open PySem PySem.Spec PyProof.Rows L2
theorem rel_ints' {H : Hp} {L : Addr → Prop} : ∀ ns : List Int, RelPs H L (ns.map .int) (ns.map V.int)
  | [] => RelPs.nil
  | n :: ns => RelPs.cons (show RelP H L (.int n) (.int n) by unfold RelP; rfl) (rel_ints' ns)
theorem insS_mem {k j : Int} : ∀ {l : List Int}, j ∈ insS k l ↔ j = k ∨ j ∈ l
  | [] => by simp [insS]
  | x :: r => by
    unfold insS
    split
    · simp
    · split
      · rename_i e; subst e; simp
      · rw [List.mem_cons, insS_mem (l := r), List.mem_cons]
        constructor
        · rintro (a | a | a)
          · exact .inr (.inl a)
          · exact .inl a
          · exact .inr (.inr a)
        · rintro (a | a | a)
          · exact .inr (.inl a)
          · exact .inl a
          · exact .inr (.inr a)
theorem insS_ord {k : Int} : ∀ {l : List Int}, l.Pairwise (· < ·) → (insS k l).Pairwise (· < ·)
  | [], _ => by simp [insS]
  | x :: r, h => by
    rw [List.pairwise_cons] at h
    unfold insS
    split
    · rename_i c
      refine List.pairwise_cons.mpr ⟨fun y hy => ?_, List.pairwise_cons.mpr h⟩
      rcases List.mem_cons.mp hy with e | m
      · exact e ▸ c
      · have := h.1 y m; omega
    · split
      · exact List.pairwise_cons.mpr h
      · refine List.pairwise_cons.mpr ⟨fun y hy => ?_, insS_ord h.2⟩
        rcases insS_mem.mp hy with e | m
        · omega
        · exact h.1 y m
theorem setSort_mem {j : Int} : ∀ {l : List Int}, j ∈ setSort l ↔ j ∈ l
  | [] => by simp [setSort]
  | x :: r => by rw [setSort, insS_mem, setSort_mem (l := r), List.mem_cons]
theorem setSort_ord : ∀ {l : List Int}, (setSort l).Pairwise (· < ·)
  | [] => by simp [setSort]
  | x :: r => by rw [setSort]; exact insS_ord setSort_ord
theorem ord_eq {a b : List Int} (ha : a.Pairwise (· < ·)) (hb : b.Pairwise (· < ·)) (h : ∀ k, k ∈ a ↔ k ∈ b) : a = b := by
  have na : a.Nodup := ha.imp fun q => Int.ne_of_lt q
  have nb : b.Nodup := hb.imp fun q => Int.ne_of_lt q
  have p : a.Perm b := (List.perm_ext_iff_of_nodup na nb).mpr h
  exact List.Perm.eq_of_pairwise (le := (· < ·)) (fun x y _ _ q1 q2 => absurd q1 (by omega)) ha hb p
section
variable {X : Cx} {W : WS} {C : Calls} {a : Expr} {ma : ME} {p p2 q pos : Pos}
def tSortSet (K : PySem.W.Frag) (ta : TE) : TE := fun σ H Q => ta σ H fun x H1 => ∃ (l : Addr) (ns : List Int), x = V.ref l ∧ SqL K H1 l (ns.map V.int) ∧ ns.length < 60 ∧
  ∀ (out : List Int) (b : Addr), out.Pairwise (· < ·) → (∀ k, k ∈ out ↔ k ∈ ns) → H1 b = none → Q (.ref b) (upd H1 b (.lst (out.map V.int)))
theorem sorted_free {pins : List (Addr × Obj)} {σ : L2.St} {H1 : Hp} {s2 : Shared} {x : Addr} {M : Int → Bool} {c : Nat} {Q : VK} (hc : X.calm = true) (I2 : Inv X pins σ H1 s2) (R : SetR X.w s2.heap x M c) (few : c < 64)
    (go : ∀ (out : List Int) (b : Addr), out.Pairwise (· < ·) → (∀ k, k ∈ out ↔ M k = true) → H1 b = none → Q (.ref b) (upd H1 b (.lst (out.map V.int)))) :
    wpAny (model X.prog X.w) X.A (call (.builtin "sorted") [.ref x]) (EP X pins σ Q) X.xe s2 := by
  refine sorted_set (s := s2) R (I2.ok.hd hc) few fun s' b out cc ks keep g o hp hg' hi hs hmem hl => ?_
  have few2 : (ks.map V.int).length ≤ sizeLine := by rw [List.length_map, hl, sizeLine_eq]; omega
  have hn : H1 b = none := I2.hok.fresh hp
  have J : Inv X pins σ (upd H1 b (.lst (ks.map V.int))) { s2 with heap := s'.heap, gens := s'.gens, drawn := s'.drawn, toks := s'.toks } :=
    I2.call (ch := []) (Un.laid keep hp hn) (I2.hok.laid keep hp ⟨few2, out.toList, cc, vals_of_ints hi, hg'⟩) (by rw [g]; exact I2.bare) (fun _ z => nomatch z)
  have e : s' = { s2 with heap := s'.heap, gens := s'.gens, drawn := s'.drawn, toks := s'.toks } := by
    obtain ⟨a1, a2, a3, a4, a5⟩ := s'
    obtain ⟨b1, b2, b3, b4, b5⟩ := s2
    cases o
    rfl
  rw [e]
  exact ⟨.ref b, _, J, rfl, go ks b hs hmem hn⟩
theorem pe_sortSet {ta : TE} (hc : X.calm = true) (hg : Gl X "sorted") (hm : X.mg "sorted" = none) (hg2 : Gl X "set") (hm2 : X.mg "set" = none) (ha : PE X a ta)
    (na : starEach [a] X.env = (false, eval a X.env) :: starEach [] X.env := by rfl) : PE X (.Call (.Name "sorted" p) [.Call (.Name "set" p2) [a] [] q] [] pos) (tSortSet X.K ta) := by
  refine ⟨fun pins s σ H Q I h => ?_⟩
  refine Call_ (ld_blt I hg hm PyProof.Rows.boot_sorted ?_)
  refine PyProof.Rows.callWith_builtin1 (PyProof.Rows.args_cons ?_ rfl) rfl rfl
  refine Call_ (ld_blt I hg2 hm2 PyProof.Rows.boot_set ?_)
  refine PyProof.Rows.callWith_type1 (PyProof.Rows.args_cons (thn (ha.run pins s σ H _ I h) fun v s1 ⟨x, H1, I1, r1, q1⟩ => PyProof.Rows.args_nil ?_) na) na rfl
  obtain ⟨l, ns, rfl, hq, few, go⟩ := q1
  cases r1
  obtain ⟨its, r, pl, hz⟩ := I1.list hq
  refine set_of_list (w := X.w) ns (I1.ok.hd hc) pl.isList (by simpa using r.ints) (by unfold scanBound; omega) fun h' tk c R hcn hk => ?_
  refine PyProof.Rows.args_nil ?_
  have I2 : Inv X pins σ H1 { s1 with heap := h', toks := tk } := I1.kept hk
  exact sorted_free hc I2 R (by omega) fun out b h1 h2 h3 => go out b h1 (fun k => by rw [h2]; simp) h3
theorem e_sortSet (m : Bool) (hc : X.calm = true) (hm : X.mg "sorted" = none) (hm2 : X.mg "set" = none) (ha : PE X a (rdE C W ma)) (hg : Gl X "sorted" := by rfl) (hg2 : Gl X "set" := by rfl) (na : starEach [a] X.env = (false, eval a X.env) :: starEach [] X.env := by rfl) :
    PE X (.Call (.Name "sorted" p) [.Call (.Name "set" p2) [a] [] q] [] pos) (rdE C W (.bi (.sortSet m) [ma])) :=
  PE.imp (pe_sortSet hc hg hm hg2 hm2 ha na) fun σ H Q ⟨z, l, S, hl, R, h⟩ => by
    unfold evalE at h
    unfold evalEs at h
    refine seqE (f := fun v S1 => ((evalEs C [] l S1).bind fun vs S2 => Res.ok (v :: vs) S2).bind fun vs S1 => biP (.sortSet m) vs S1) hl R (k := fun v z' S' H' => ∀ u, RelD z' S' H' v u → Q u H') ?_ fun u H1 z1 S1 v a1 rv => ?_
    · revert h; cases evalE C ma l S <;> exact id
    have h1 := a1.h
    unfold evalEs at h1
    have h1 : Post W l z1 S1 H1 (bNew m ((intsV S1 v).bind fun is => if is.length < 60 then some ((setSort is).map .int) else none) S1) _ := h1
    cases ei : intsV S1 v with
    | none => rw [ei] at h1; exact h1.elim
    | some ns =>
      rw [ei] at h1
      simp only [Option.bind_some] at h1
      by_cases c : ns.length < 60
      · rw [if_pos c] at h1
        obtain ⟨b, rfl, dd⟩ := intsV_rel a1.R ei rv
        refine ⟨b, ns, rfl, .inl dd, c, fun out x ho hmem hx => ?_⟩
        rw [ord_eq ho (setSort_ord (l := ns)) fun k => (hmem k).trans setSort_mem.symm]
        obtain ⟨w', z', S', k1, r1⟩ := new_list a1.R hx (rel_ints' (setSort ns)) h1
        exact k1 _ r1
      · rw [if_neg c] at h1; exact h1.elim
end
end Ev
end
section
set_option maxRecDepth 100000
set_option maxHeartbeats 4000000
/-! EvEnd: from the law's function to the law. -/
namespace Ev
open PySem PySem.Spec PyProof.Rows L2
/-- what the module is known to hold, but for one address -/
def del (K : PySem.W.Frag) (a : Addr) : PySem.W.Frag := K.filter fun p => p.1 != a
theorem del_self (a : Addr) : ∀ K : PySem.W.Frag, (del K a).lookup a = none
  | [] => rfl
  | p :: K => by
    unfold del
    by_cases e : p.1 = a
    · rw [List.filter_cons_of_neg (by simp [e])]
      exact del_self a K
    · rw [List.filter_cons_of_pos (by simp [e])]
      obtain ⟨p1, p2⟩ := p
      rw [List.lookup_cons]
      have : (a == p1) = false := by
        have e : ¬ p1 = a := e
        simp [Ne.symm e]
      rw [this]
      exact del_self a K
theorem del_ne {a b : Addr} (h : b ≠ a) : ∀ K : PySem.W.Frag, (del K a).lookup b = K.lookup b
  | [] => rfl
  | p :: K => by
    obtain ⟨p1, p2⟩ := p
    unfold del
    by_cases e : p1 = a
    · rw [List.filter_cons_of_neg (by simp [e]), List.lookup_cons]
      have : (b == p1) = false := by simp [e, h]
      rw [this]
      exact del_ne h K
    · rw [List.filter_cons_of_pos (by simp [e]), List.lookup_cons, List.lookup_cons]
      by_cases e2 : (b == p1) = true
      · rw [e2]
      · rw [Bool.not_eq_true] at e2
        rw [e2]
        exact del_ne h K
theorem del_in {K : PySem.W.Frag} {a : Addr} {h : Heap} (X : K.In h) : (del K a).In h := fun b o e => by
  by_cases q : b = a
  · subst q; rw [del_self] at e; cases e
  · rw [del_ne q] at e; exact X b o e
/-- a function is none of the lists -/
theorem FunD.del {K : PySem.W.Frag} {a : Addr} {x qual : Str} {params : Arguments} {body : List Stmt} {scope : Scope} {f : Addr} {fd : FuncData} (F : FunD K x qual params body scope [] [] f fd) (hl : ∀ o, K.lookup a = some o → ∃ vs n, o.data = .seq vs n) :
    FunD (del K a) x qual params body scope [] [] f fd := by
  obtain ⟨⟨oc, od, dV, kV, doc, pm, an, cdv, ct, osl, e, lk, hcd, hD, hK⟩, kp⟩ := F
  have nf : f ≠ a := fun z => by
    subst z
    obtain ⟨vs, n, q⟩ := hl _ lk
    cases q
  refine ⟨⟨oc, od, dV, kV, doc, pm, an, cdv, ct, osl, e, by rw [del_ne nf]; exact lk, ?_, ?_, ?_⟩, ?_⟩
  · unfold PySem.W.codeIn at hcd ⊢
    cases cdv with
    | ref c =>
      have nc : c ≠ a := fun z => by
        subst z
        dsimp only at hcd
        split at hcd
        · rename_i q
          obtain ⟨vs, n, q2⟩ := hl _ q
          cases q2
        · cases hcd
      dsimp only at hcd ⊢
      rw [del_ne nc]
      exact hcd
    | _ => exact hcd
  · rcases hD with h | ⟨h, _⟩
    · exact .inl h
    · exact absurd rfl h
  · exact .inl rfl
  · unfold PySem.W.keepIn at kp ⊢
    dsimp only at kp ⊢
    rw [del_ne nf, lk]
/-- the script, as the law's function sees it -/
def scr (vs : List Value) (ns : List Int) (a : Addr) : Hp := fun b => if b = a then some (.frz { cls := .type "list", data := .seq vs.toArray } (.lst (ns.map V.int))) else none
/-- the call of the law's function, from the promise of its table entry -/
theorem law_callG {P : Program} {w : World} {K : PySem.W.Frag} {mg mb : Str → Option Value} {k : Nat} {fa a : Addr} {fd : FuncData} {x : Str} {sp : Sp} {s₁ : Shared} {vs : List Value} {ns : List Int} (KX : K.In s₁.heap) (hns : s₁.heap.Ns mainGlobals mg) (hb : s₁.heap.Ns builtinsNs mb)
    (hbb : ∀ x : Str, x ≠ "__name__" → mb x = bootBuiltins x) (hlim : s₁.heap.NoLimit) (hg : s₁.gens = #[]) (ha : s₁.heap.get? a = some { cls := .type "list", data := .seq vs.toArray }) (hi : IntsAre vs ns) (hl : ns.length ≤ sizeLine) (hr : Room k callerA) (hK : K.lookup a = none)
    (F : ∀ base : Heap, K.In base → base.Ns mainGlobals mg → FnOkG P w K mg base k fa fd [x] sp) (hbind : ∀ (s : Shared) (u : Value), BindsTo s fd ⟨[u], []⟩ [(x, u)])
    (hsp : sp [.ref a] (scr vs ns a) (fun v _ => v = .bl true) fun _ _ _ => False) :
    codeAny (model P w) callerA (.call (.ref fa) ⟨[.ref a], []⟩) (fun r s' => r = .ok (.ret (.bool true)) ∧ OldK s₁.heap s'.heap ∧ s'.os = s₁.os ∧ AllBare s'.gens) s₁ := by
  have at_ : scr vs ns a a = some (.frz { cls := .type "list", data := .seq vs.toArray } (.lst (ns.map V.int))) := if_pos rfl
  have off : ∀ {b}, b ≠ a → scr vs ns a b = none := fun h => if_neg h
  have hok : HOk P w (scr vs ns a) s₁.heap := fun b u e => by
    by_cases q : b = a
    · subst q
      rw [at_] at e
      cases e
      exact ⟨ha, by rw [List.length_map]; exact hl, vs, _, vals_ints hi, ha⟩
    · rw [off q] at e
      cases e
  have inB : ∀ {b o}, s₁.heap.get? b = some o → b ≠ a → (hidT s₁.heap (scr vs ns a)).get? b = some o := fun e h => hidT_get e (off h)
  have KB : K.In (hidT s₁.heap (scr vs ns a)) := fun b o e => inB (KX b o e) fun z => by rw [z, hK] at e; cases e
  have dictNe : ∀ {b : Addr} {o : Obj} {es : Array DictEntry} {ep : Nat}, s₁.heap.get? b = some o → o.data = .dict es ep → b ≠ a := fun e d z => by
    rw [z, ha] at e
    cases e
    cases d
  have nsB : ∀ {b : Addr} {m : Str → Option Value}, s₁.heap.Ns b m → (hidT s₁.heap (scr vs ns a)).Ns b m := fun ⟨o, es, ep, e, d, r⟩ => ⟨o, es, ep, inB e (dictNe e d), d, r⟩
  have md : Mod K mg (hidT s₁.heap (scr vs ns a)) := ⟨KB, nsB hns, ⟨mb, nsB hb, hbb⟩, let ⟨mc, h1, h2⟩ := hlim; ⟨mc, nsB h1, h2⟩⟩
  have env : Env0 P w K mg (hidT s₁.heap (scr vs ns a)) callerA [] s₁ (scr vs ns a) := ⟨rfl, md, fun b o e => of_hidT e, Nat.le_of_eq (hidT_size _ _), trivial, fun b z => absurd (show b ∈ ([] : List Addr) from z) (by simp), hok, .of_eq hg⟩
  refine codeAny_mono ((F _ KB (nsB hns)).run callerA [] s₁ (scr vs ns a) ⟨[.ref a], []⟩ [.ref a] [.ref a] _ _ hr rfl env (hbind s₁ (.ref a)) (.cons rfl .nil) hsp) fun r s' h => ?_
  cases r with
  | error e =>
    obtain ⟨_, _, _, _, _, _, _, _, _, _, _, _, z⟩ := h
    exact z.elim
  | ok fl =>
    cases fl with
    | next => exact False.elim h
    | brk => exact False.elim h
    | cont => exact False.elim h
    | ret u =>
      obtain ⟨v, H', os, bare, un, hok', rv, q⟩ := h
      have q : v = .bl true := q
      subst q
      obtain rfl : u = Value.bool true := rv
      refine ⟨rfl, OldK.of_keep fun b o e => ?_, os, bare⟩
      by_cases z : b = a
      · subst z
        rw [ha] at e
        cases e
        exact (hok' _ _ (un.frzs _ _ _ at_)).1
      · exact un.keep b o e (off z) (by intro y; exact absurd (show b ∈ ([] : List Addr) from y) (by simp)) (by simp)
theorem rel_ints {H : Hp} {L : Addr → Prop} : ∀ ns : List Int, RelPs H L (ns.map .int) (ns.map V.int)
  | [] => RelPs.nil
  | n :: ns => RelPs.cons (show RelP H L (.int n) (.int n) by unfold RelP; rfl) (rel_ints ns)
/-- the law's promise is what the table's entry tells of the script's ints -/
theorem sp_law {mg : Str → Option Value} {C : Calls} {vs : List Value} {ns : List Int} {a : Addr} (h : ∃ S', C "law" [.d (.list (ns.map .int))] [] = .ok (.d (.bool true)) S') : spEv mg 1 C "law" [.ref a] (scr vs ns a) (fun v _ => v = .bl true) (fun _ _ _ => False) := by
  obtain ⟨S', h⟩ := h
  refine ⟨rfl, ⟨fun _ => False, fun _ => 0⟩, [], [.d (.list (ns.map .int))], ⟨_, [], rfl, ?_, rfl⟩, ⟨fun _ _ h => absurd h (Nat.not_lt_zero _), fun _ h => absurd h (Nat.not_lt_zero _), fun _ h => h.elim, fun i o h => by simp at h⟩, ?_⟩
  · show RelP _ _ (.list (ns.map .int)) _
    unfold RelP
    refine ⟨a, ns.map V.int, rfl, ?_, .inr ⟨_, if_pos rfl⟩, rel_ints ns⟩
    rintro (q | ⟨i, hi, _⟩)
    · exact q
    · exact absurd hi (Nat.not_lt_zero _)
  · rw [h]
    intro z' H' u t R r
    exact rel_bool R rfl r
/-- a law, from the promise of its function -/
theorem walk_ofG {l : PySem.W.OpenLaw} {n k : Nat} {q : Program} {loose : List Str} {XP : (Str → Option Value) → Heap → Prop} {YP : World → Heap → Prop} {d : DefRec} {x : Str} (hn : l.most = some n) (hn2 : n ≤ sizeLine) (hdf : d.params.defaults = []) (hr : Room k callerA)
    (F : ∀ (w : World) (mg : Str → Option Value) (fa : Addr) (h : Heap), YP w h → h.Ns mainGlobals mg → mg d.name = some (.ref fa) →
      ∃ (K : PySem.W.Frag) (fd : FuncData) (sp : Sp), K.In h ∧ (∀ (s : Shared) (u : Value), BindsTo s fd ⟨[u], []⟩ [(x, u)]) ∧ (∀ (a : Addr) (vs : List Value) (ns : List Int), ns.length ≤ n → sp [.ref a] (scr vs ns a) (fun v _ => v = .bl true) fun _ _ _ => False) ∧
        ∀ a : Addr, (∀ o, K.lookup a = some o → ∃ vs n, o.data = .seq vs n) → ∀ base : Heap, (del K a).In base → base.Ns mainGlobals mg → FnOkG l.prog w (del K a) mg base k fa fd [x] sp) :
    PySem.W.WalkO q loose XP YP l.row.toRowW d [] (fun f vs => PySem.call f vs) := by
  refine Att.attach_call hn hdf fun w s₀ s₁ mg mb fa o pm cd doc a vs ns G Y ho hd hcd hmg hobj hints hlen hg => ?_
  obtain ⟨K, fd, sp, KX, hb, hsp, hF⟩ := F w mg fa _ Y G.T.g hmg
  have seq : ∀ o, K.lookup a = some o → ∃ vs n, o.data = .seq vs n := fun o e => by
    have e2 := KX a o e
    rw [hobj] at e2
    cases e2
    exact ⟨_, _, rfl⟩
  exact law_callG (del_in KX) G.T.g G.T.b G.T.builtins G.T.nolimit hg hobj hints (Nat.le_trans hlen hn2) hr (del_self a K) (hF a seq) hb (hsp a vs ns hlen)
end Ev
end
section
set_option maxRecDepth 100000
set_option maxHeartbeats 4000000
namespace Ev.treeandtrip_k45_notice_day_by_day
open PySem PySem.Spec PyProof.Rows L2 Ev
def top (i : Nat) : Stmt := PySem.Challenge.pw_treeandtrip_k45_notice_day_by_day.main.body.getD i (.Pass ⟨0, 0, 0, 0⟩)
structure Glob (K : PySem.W.Frag) (mg : Str → Option Value) where
  f__begins : Addr
  d__begins : FuncData
  F__begins : FunD K "_begins" "_begins" (defArgs (top 23)) (defBody (top 23)) (defScope (top 23)) [] [] f__begins d__begins
  m__begins : mg "_begins" = some (.ref f__begins)
  k__begins : PySem.W.keepIn K (.ref f__begins) = true
  b__begins : Binds K d__begins ["thing", "word", "many"] []
  f__check_loans : Addr
  d__check_loans : FuncData
  F__check_loans : FunD K "_check_loans" "_check_loans" (defArgs (top 44)) (defBody (top 44)) (defScope (top 44)) [] [] f__check_loans d__check_loans
  m__check_loans : mg "_check_loans" = some (.ref f__check_loans)
  k__check_loans : PySem.W.keepIn K (.ref f__check_loans) = true
  b__check_loans : Binds K d__check_loans ["terms"] []
  f__check_trips : Addr
  d__check_trips : FuncData
  F__check_trips : FunD K "_check_trips" "_check_trips" (defArgs (top 26)) (defBody (top 26)) (defScope (top 26)) [] [] f__check_trips d__check_trips
  m__check_trips : mg "_check_trips" = some (.ref f__check_trips)
  k__check_trips : PySem.W.keepIn K (.ref f__check_trips) = true
  b__check_trips : Binds K d__check_trips ["n", "thing"] []
  f__check_ways : Addr
  d__check_ways : FuncData
  F__check_ways : FunD K "_check_ways" "_check_ways" (defArgs (top 18)) (defBody (top 18)) (defScope (top 18)) [] [] f__check_ways d__check_ways
  m__check_ways : mg "_check_ways" = some (.ref f__check_ways)
  k__check_ways : PySem.W.keepIn K (.ref f__check_ways) = true
  b__check_ways : Binds K d__check_ways ["n", "ways"] []
  f__is_row : Addr
  d__is_row : FuncData
  F__is_row : FunD K "_is_row" "_is_row" (defArgs (top 28)) (defBody (top 28)) (defScope (top 28)) [] [] f__is_row d__is_row
  m__is_row : mg "_is_row" = some (.ref f__is_row)
  k__is_row : PySem.W.keepIn K (.ref f__is_row) = true
  b__is_row : Binds K d__is_row ["n", "place", "thing"] []
  f__is_table : Addr
  d__is_table : FuncData
  F__is_table : FunD K "_is_table" "_is_table" (defArgs (top 27)) (defBody (top 27)) (defScope (top 27)) [] [] f__is_table d__is_table
  m__is_table : mg "_is_table" = some (.ref f__is_table)
  k__is_table : PySem.W.keepIn K (.ref f__is_table) = true
  b__is_table : Binds K d__is_table ["n", "thing"] []
  f__law_draw : Addr
  d__law_draw : FuncData
  F__law_draw : FunD K "_law_draw" "_law_draw" (defArgs (top 49)) (defBody (top 49)) (defScope (top 49)) [] [] f__law_draw d__law_draw
  m__law_draw : mg "_law_draw" = some (.ref f__law_draw)
  k__law_draw : PySem.W.keepIn K (.ref f__law_draw) = true
  b__law_draw : Binds K d__law_draw ["pool", "bound"] []
  f__law_notice_some : Addr
  d__law_notice_some : FuncData
  F__law_notice_some : FunD K "_law_notice_some" "_law_notice_some" (defArgs (top 64)) (defBody (top 64)) (defScope (top 64)) [] [] f__law_notice_some d__law_notice_some
  m__law_notice_some : mg "_law_notice_some" = some (.ref f__law_notice_some)
  k__law_notice_some : PySem.W.keepIn K (.ref f__law_notice_some) = true
  b__law_notice_some : Binds K d__law_notice_some ["days", "longest"] []
  f__law_pick : Addr
  d__law_pick : FuncData
  F__law_pick : FunD K "_law_pick" "_law_pick" (defArgs (top 50)) (defBody (top 50)) (defScope (top 50)) [] [] f__law_pick d__law_pick
  m__law_pick : mg "_law_pick" = some (.ref f__law_pick)
  k__law_pick : PySem.W.keepIn K (.ref f__law_pick) = true
  b__law_pick : Binds K d__law_pick ["pool", "things"] []
  f__law_pool : Addr
  d__law_pool : FuncData
  F__law_pool : FunD K "_law_pool" "_law_pool" (defArgs (top 48)) (defBody (top 48)) (defScope (top 48)) [] [] f__law_pool d__law_pool
  m__law_pool : mg "_law_pool" = some (.ref f__law_pool)
  k__law_pool : PySem.W.keepIn K (.ref f__law_pool) = true
  b__law_pool : Binds K d__law_pool ["script"] []
  f__law_term_loans : Addr
  d__law_term_loans : FuncData
  F__law_term_loans : FunD K "_law_term_loans" "_law_term_loans" (defArgs (top 61)) (defBody (top 61)) (defScope (top 61)) [] [] f__law_term_loans d__law_term_loans
  m__law_term_loans : mg "_law_term_loans" = some (.ref f__law_term_loans)
  k__law_term_loans : PySem.W.keepIn K (.ref f__law_term_loans) = true
  b__law_term_loans : Binds K d__law_term_loans ["pool", "web"] []
  f__law_term_table : Addr
  d__law_term_table : FuncData
  F__law_term_table : FunD K "_law_term_table" "_law_term_table" (defArgs (top 62)) (defBody (top 62)) (defScope (top 62)) [] [] f__law_term_table d__law_term_table
  m__law_term_table : mg "_law_term_table" = some (.ref f__law_term_table)
  k__law_term_table : PySem.W.keepIn K (.ref f__law_term_table) = true
  b__law_term_table : Binds K d__law_term_table ["pool", "n", "most"] []
  f__law_term_trips : Addr
  d__law_term_trips : FuncData
  F__law_term_trips : FunD K "_law_term_trips" "_law_term_trips" (defArgs (top 63)) (defBody (top 63)) (defScope (top 63)) [] [] f__law_term_trips d__law_term_trips
  m__law_term_trips : mg "_law_term_trips" = some (.ref f__law_term_trips)
  k__law_term_trips : PySem.W.keepIn K (.ref f__law_term_trips) = true
  b__law_term_trips : Binds K d__law_term_trips ["pool", "web"] []
  f__law_turned : Addr
  d__law_turned : FuncData
  F__law_turned : FunD K "_law_turned" "_law_turned" (defArgs (top 51)) (defBody (top 51)) (defScope (top 51)) [] [] f__law_turned d__law_turned
  m__law_turned : mg "_law_turned" = some (.ref f__law_turned)
  k__law_turned : PySem.W.keepIn K (.ref f__law_turned) = true
  b__law_turned : Binds K d__law_turned ["pool", "bound"] []
  f__law_web_any : Addr
  d__law_web_any : FuncData
  F__law_web_any : FunD K "_law_web_any" "_law_web_any" (defArgs (top 56)) (defBody (top 56)) (defScope (top 56)) [] [] f__law_web_any d__law_web_any
  m__law_web_any : mg "_law_web_any" = some (.ref f__law_web_any)
  k__law_web_any : PySem.W.keepIn K (.ref f__law_web_any) = true
  b__law_web_any : Binds K d__law_web_any ["pool", "places", "most"] []
  f__law_web_days : Addr
  d__law_web_days : FuncData
  F__law_web_days : FunD K "_law_web_days" "_law_web_days" (defArgs (top 53)) (defBody (top 53)) (defScope (top 53)) [] [] f__law_web_days d__law_web_days
  m__law_web_days : mg "_law_web_days" = some (.ref f__law_web_days)
  k__law_web_days : PySem.W.keepIn K (.ref f__law_web_days) = true
  b__law_web_days : Binds K d__law_web_days ["pool", "most"] []
  f__law_web_drawn : Addr
  d__law_web_drawn : FuncData
  F__law_web_drawn : FunD K "_law_web_drawn" "_law_web_drawn" (defArgs (top 54)) (defBody (top 54)) (defScope (top 54)) [] [] f__law_web_drawn d__law_web_drawn
  m__law_web_drawn : mg "_law_web_drawn" = some (.ref f__law_web_drawn)
  k__law_web_drawn : PySem.W.keepIn K (.ref f__law_web_drawn) = true
  b__law_web_drawn : Binds K d__law_web_drawn ["pool", "n", "most", "further"] []
  f__law_web_joined : Addr
  d__law_web_joined : FuncData
  F__law_web_joined : FunD K "_law_web_joined" "_law_web_joined" (defArgs (top 57)) (defBody (top 57)) (defScope (top 57)) [] [] f__law_web_joined d__law_web_joined
  m__law_web_joined : mg "_law_web_joined" = some (.ref f__law_web_joined)
  k__law_web_joined : PySem.W.keepIn K (.ref f__law_web_joined) = true
  b__law_web_joined : Binds K d__law_web_joined ["n", "ways"] []
  f__law_web_least : Addr
  d__law_web_least : FuncData
  F__law_web_least : FunD K "_law_web_least" "_law_web_least" (defArgs (top 58)) (defBody (top 58)) (defScope (top 58)) [] [] f__law_web_least d__law_web_least
  m__law_web_least : mg "_law_web_least" = some (.ref f__law_web_least)
  k__law_web_least : PySem.W.keepIn K (.ref f__law_web_least) = true
  b__law_web_least : Binds K d__law_web_least ["web"] []
  f__law_web_length : Addr
  d__law_web_length : FuncData
  F__law_web_length : FunD K "_law_web_length" "_law_web_length" (defArgs (top 59)) (defBody (top 59)) (defScope (top 59)) [] [] f__law_web_length d__law_web_length
  m__law_web_length : mg "_law_web_length" = some (.ref f__law_web_length)
  k__law_web_length : PySem.W.keepIn K (.ref f__law_web_length) = true
  b__law_web_length : Binds K d__law_web_length ["ways"] []
  f__law_web_longest : Addr
  d__law_web_longest : FuncData
  F__law_web_longest : FunD K "_law_web_longest" "_law_web_longest" (defArgs (top 60)) (defBody (top 60)) (defScope (top 60)) [] [] f__law_web_longest d__law_web_longest
  m__law_web_longest : mg "_law_web_longest" = some (.ref f__law_web_longest)
  k__law_web_longest : PySem.W.keepIn K (.ref f__law_web_longest) = true
  b__law_web_longest : Binds K d__law_web_longest ["ways"] []
  f__law_web_rims : Addr
  d__law_web_rims : FuncData
  F__law_web_rims : FunD K "_law_web_rims" "_law_web_rims" (defArgs (top 55)) (defBody (top 55)) (defScope (top 55)) [] [] f__law_web_rims d__law_web_rims
  m__law_web_rims : mg "_law_web_rims" = some (.ref f__law_web_rims)
  k__law_web_rims : PySem.W.keepIn K (.ref f__law_web_rims) = true
  b__law_web_rims : Binds K d__law_web_rims ["pool"] []
  f__law_web_way : Addr
  d__law_web_way : FuncData
  F__law_web_way : FunD K "_law_web_way" "_law_web_way" (defArgs (top 52)) (defBody (top 52)) (defScope (top 52)) [] [] f__law_web_way d__law_web_way
  m__law_web_way : mg "_law_web_way" = some (.ref f__law_web_way)
  k__law_web_way : PySem.W.keepIn K (.ref f__law_web_way) = true
  b__law_web_way : Binds K d__law_web_way ["one", "other", "days"] []
  f_are_loans : Addr
  d_are_loans : FuncData
  F_are_loans : FunD K "are_loans" "are_loans" (defArgs (top 29)) (defBody (top 29)) (defScope (top 29)) [] [] f_are_loans d_are_loans
  m_are_loans : mg "are_loans" = some (.ref f_are_loans)
  k_are_loans : PySem.W.keepIn K (.ref f_are_loans) = true
  b_are_loans : Binds K d_are_loans ["terms"] []
  f_by_days : Addr
  d_by_days : FuncData
  F_by_days : FunD K "by_days" "by_days" (defArgs (top 34)) (defBody (top 34)) (defScope (top 34)) [] [] f_by_days d_by_days
  m_by_days : mg "by_days" = some (.ref f_by_days)
  k_by_days : PySem.W.keepIn K (.ref f_by_days) = true
  b_by_days : Binds K d_by_days ["way"] []
  f_check_loans_terms : Addr
  d_check_loans_terms : FuncData
  F_check_loans_terms : FunD K "_check_loans" "_check_loans" (defArgs (top 24)) (defBody (top 24)) (defScope (top 24)) [] [] f_check_loans_terms d_check_loans_terms
  m_check_loans_terms : mg "check_loans_terms" = some (.ref f_check_loans_terms)
  k_check_loans_terms : PySem.W.keepIn K (.ref f_check_loans_terms) = true
  b_check_loans_terms : Binds K d_check_loans_terms ["thing"] []
  f_check_loans_worths : Addr
  d_check_loans_worths : FuncData
  F_check_loans_worths : FunD K "_check_loans" "_check_loans" (defArgs (top 44)) (defBody (top 44)) (defScope (top 44)) [] [] f_check_loans_worths d_check_loans_worths
  m_check_loans_worths : mg "check_loans_worths" = some (.ref f_check_loans_worths)
  k_check_loans_worths : PySem.W.keepIn K (.ref f_check_loans_worths) = true
  b_check_loans_worths : Binds K d_check_loans_worths ["terms"] []
  f_check_together : Addr
  d_check_together : FuncData
  F_check_together : FunD K "check_together" "check_together" (defArgs (top 15)) (defBody (top 15)) (defScope (top 15)) [] [] f_check_together d_check_together
  m_check_together : mg "check_together" = some (.ref f_check_together)
  k_check_together : PySem.W.keepIn K (.ref f_check_together) = true
  b_check_together : Binds K d_check_together ["n", "ways"] []
  f_checked_terms : Addr
  d_checked_terms : FuncData
  F_checked_terms : FunD K "checked_terms" "checked_terms" (defArgs (top 22)) (defBody (top 22)) (defScope (top 22)) [] [] f_checked_terms d_checked_terms
  m_checked_terms : mg "checked_terms" = some (.ref f_checked_terms)
  k_checked_terms : PySem.W.keepIn K (.ref f_checked_terms) = true
  b_checked_terms : Binds K d_checked_terms ["n", "thing"] []
  f_crates_by : Addr
  d_crates_by : FuncData
  F_crates_by : FunD K "crates_by" "crates_by" (defArgs (top 39)) (defBody (top 39)) (defScope (top 39)) [] [] f_crates_by d_crates_by
  m_crates_by : mg "crates_by" = some (.ref f_crates_by)
  k_crates_by : PySem.W.keepIn K (.ref f_crates_by) = true
  b_crates_by : Binds K d_crates_by ["summands_told"] []
  f_days_in_all : Addr
  d_days_in_all : FuncData
  F_days_in_all : FunD K "days_in_all" "days_in_all" (defArgs (top 32)) (defBody (top 32)) (defScope (top 32)) [] [] f_days_in_all d_days_in_all
  m_days_in_all : mg "days_in_all" = some (.ref f_days_in_all)
  k_days_in_all : PySem.W.keepIn K (.ref f_days_in_all) = true
  b_days_in_all : Binds K d_days_in_all ["legs"] []
  f_days_of_longest : Addr
  d_days_of_longest : FuncData
  F_days_of_longest : FunD K "days_of_longest" "days_of_longest" (defArgs (top 33)) (defBody (top 33)) (defScope (top 33)) [] [] f_days_of_longest d_days_of_longest
  m_days_of_longest : mg "days_of_longest" = some (.ref f_days_of_longest)
  k_days_of_longest : PySem.W.keepIn K (.ref f_days_of_longest) = true
  b_days_of_longest : Binds K d_days_of_longest ["legs"] []
  f_fresh : Addr
  d_fresh : FuncData
  F_fresh : FunD K "fresh" "fresh" (defArgs (top 12)) (defBody (top 12)) (defScope (top 12)) [] [] f_fresh d_fresh
  m_fresh : mg "fresh" = some (.ref f_fresh)
  k_fresh : PySem.W.keepIn K (.ref f_fresh) = true
  b_fresh : Binds K d_fresh ["thing"] []
  f_is_number : Addr
  d_is_number : FuncData
  F_is_number : FunD K "is_number" "is_number" (defArgs (top 9)) (defBody (top 9)) (defScope (top 9)) [] [] f_is_number d_is_number
  m_is_number : mg "is_number" = some (.ref f_is_number)
  k_is_number : PySem.W.keepIn K (.ref f_is_number) = true
  b_is_number : Binds K d_is_number ["thing"] []
  f_is_numbers : Addr
  d_is_numbers : FuncData
  F_is_numbers : FunD K "is_numbers" "is_numbers" (defArgs (top 11)) (defBody (top 11)) (defScope (top 11)) [] [] f_is_numbers d_is_numbers
  m_is_numbers : mg "is_numbers" = some (.ref f_is_numbers)
  k_is_numbers : PySem.W.keepIn K (.ref f_is_numbers) = true
  b_is_numbers : Binds K d_is_numbers ["thing", "many"] []
  f_is_within : Addr
  d_is_within : FuncData
  F_is_within : FunD K "is_within" "is_within" (defArgs (top 10)) (defBody (top 10)) (defScope (top 10)) [] [] f_is_within d_is_within
  m_is_within : mg "is_within" = some (.ref f_is_within)
  k_is_within : PySem.W.keepIn K (.ref f_is_within) = true
  b_is_within : Binds K d_is_within ["thing", "least", "most"] []
  f_joined : Addr
  d_joined : FuncData
  F_joined : FunD K "joined" "joined" (defArgs (top 13)) (defBody (top 13)) (defScope (top 13)) [] [] f_joined d_joined
  m_joined : mg "joined" = some (.ref f_joined)
  k_joined : PySem.W.keepIn K (.ref f_joined) = true
  b_joined : Binds K d_joined ["labels", "u", "v"] []
  f_labels_of : Addr
  d_labels_of : FuncData
  F_labels_of : FunD K "labels_of" "labels_of" (defArgs (top 14)) (defBody (top 14)) (defScope (top 14)) [] [] f_labels_of d_labels_of
  m_labels_of : mg "labels_of" = some (.ref f_labels_of)
  k_labels_of : PySem.W.keepIn K (.ref f_labels_of) = true
  b_labels_of : Binds K d_labels_of ["n", "ways"] []
  f_law : Addr
  d_law : FuncData
  F_law : FunD K "law" "law" (defArgs (top 65)) (defBody (top 65)) (defScope (top 65)) [] [] f_law d_law
  m_law : mg "law" = some (.ref f_law)
  k_law : PySem.W.keepIn K (.ref f_law) = true
  b_law : Binds K d_law ["script"] []
  f_least_legs : Addr
  d_least_legs : FuncData
  F_least_legs : FunD K "least_legs" "least_legs" (defArgs (top 35)) (defBody (top 35)) (defScope (top 35)) [] [] f_least_legs d_least_legs
  m_least_legs : mg "least_legs" = some (.ref f_least_legs)
  k_least_legs : PySem.W.keepIn K (.ref f_least_legs) = true
  b_least_legs : Binds K d_least_legs ["n", "ways"] []
  f_loan_gain : Addr
  d_loan_gain : FuncData
  F_loan_gain : FunD K "loan_gain" "loan_gain" (defArgs (top 46)) (defBody (top 46)) (defScope (top 46)) [] [] f_loan_gain d_loan_gain
  m_loan_gain : mg "loan_gain" = some (.ref f_loan_gain)
  k_loan_gain : PySem.W.keepIn K (.ref f_loan_gain) = true
  b_loan_gain : Binds K d_loan_gain ["web", "terms"] []
  f_made_terms : Addr
  d_made_terms : FuncData
  F_made_terms : FunD K "made_terms" "made_terms" (defArgs (top 21)) (defBody (top 21)) (defScope (top 21)) [] [] f_made_terms d_made_terms
  m_made_terms : mg "made_terms" = some (.ref f_made_terms)
  k_made_terms : PySem.W.keepIn K (.ref f_made_terms) = true
  b_made_terms : Binds K d_made_terms ["web", "thing"] []
  f_made_web : Addr
  d_made_web : FuncData
  F_made_web : FunD K "made_web" "made_web" (defArgs (top 17)) (defBody (top 17)) (defScope (top 17)) [] [] f_made_web d_made_web
  m_made_web : mg "made_web" = some (.ref f_made_web)
  k_made_web : PySem.W.keepIn K (.ref f_made_web) = true
  b_made_web : Binds K d_made_web ["thing"] []
  f_needed : Addr
  d_needed : FuncData
  F_needed : FunD K "needed" "needed" (defArgs (top 40)) (defBody (top 40)) (defScope (top 40)) [] [] f_needed d_needed
  m_needed : mg "needed" = some (.ref f_needed)
  k_needed : PySem.W.keepIn K (.ref f_needed) = true
  b_needed : Binds K d_needed ["web", "terms"] []
  f_notice_gain : Addr
  d_notice_gain : FuncData
  F_notice_gain : FunD K "notice_gain" "notice_gain" (defArgs (top 43)) (defBody (top 43)) (defScope (top 43)) [] [] f_notice_gain d_notice_gain
  m_notice_gain : mg "notice_gain" = some (.ref f_notice_gain)
  k_notice_gain : PySem.W.keepIn K (.ref f_notice_gain) = true
  b_notice_gain : Binds K d_notice_gain ["web", "terms"] []
  f_reserve_by : Addr
  d_reserve_by : FuncData
  F_reserve_by : FunD K "reserve_by" "reserve_by" (defArgs (top 38)) (defBody (top 38)) (defScope (top 38)) [] [] f_reserve_by d_reserve_by
  m_reserve_by : mg "reserve_by" = some (.ref f_reserve_by)
  k_reserve_by : PySem.W.keepIn K (.ref f_reserve_by) = true
  b_reserve_by : Binds K d_reserve_by ["summands_told"] []
  f_summands : Addr
  d_summands : FuncData
  F_summands : FunD K "summands" "summands" (defArgs (top 41)) (defBody (top 41)) (defScope (top 41)) [] [] f_summands d_summands
  m_summands : mg "summands" = some (.ref f_summands)
  k_summands : PySem.W.keepIn K (.ref f_summands) = true
  b_summands : Binds K d_summands ["web", "terms"] []
  f_summands_by : Addr
  d_summands_by : FuncData
  F_summands_by : FunD K "summands_by" "summands_by" (defArgs (top 37)) (defBody (top 37)) (defScope (top 37)) [] [] f_summands_by d_summands_by
  m_summands_by : mg "summands_by" = some (.ref f_summands_by)
  k_summands_by : PySem.W.keepIn K (.ref f_summands_by) = true
  b_summands_by : Binds K d_summands_by ["terms", "legs"] []
  f_three_numbers : Addr
  d_three_numbers : FuncData
  F_three_numbers : FunD K "three_numbers" "three_numbers" (defArgs (top 30)) (defBody (top 30)) (defScope (top 30)) [] [] f_three_numbers d_three_numbers
  m_three_numbers : mg "three_numbers" = some (.ref f_three_numbers)
  k_three_numbers : PySem.W.keepIn K (.ref f_three_numbers) = true
  b_three_numbers : Binds K d_three_numbers ["terms"] []
  n_all : mg "all" = none
  n_bool : mg "bool" = none
  n_enumerate : mg "enumerate" = none
  n_int : mg "int" = none
  n_isinstance : mg "isinstance" = none
  n_len : mg "len" = none
  n_list : mg "list" = none
  n_max : mg "max" = none
  n_min : mg "min" = none
  n_range : mg "range" = none
  n_repr : mg "repr" = none
  n_set : mg "set" = none
  n_sorted : mg "sorted" = none
  n_sum : mg "sum" = none
  n_tuple : mg "tuple" = none
  i_MOST_ASKS : ∃ t, mg "MOST_ASKS" = some (.int 20 t)
  i_MOST_DAYS : ∃ t, mg "MOST_DAYS" = some (.int 200 t)
  i_MOST_PLACES : ∃ t, mg "MOST_PLACES" = some (.int 40 t)
variable {P : Program} {w : World} {K : PySem.W.Frag} {mg : Str → Option Value} {base : Heap} {T : String → Option Fn} {wn : Nat}
structure Ok (P : Program) (w : World) (base : Heap) (T : String → Option Fn) (wn : Nat) (G : Glob K mg) (d : Nat) : Prop where
  o__begins : FnOkG P w K mg base (2 * d) G.f__begins G.d__begins ["thing", "word", "many"] (spEv mg 3 (callF T wn d) "_begins")
  o__check_loans : FnOkG P w K mg base (2 * d) G.f__check_loans G.d__check_loans ["terms"] (spEv mg 1 (callF T wn d) "_check_loans")
  o__check_trips : FnOkG P w K mg base (2 * d) G.f__check_trips G.d__check_trips ["n", "thing"] (spEv mg 2 (callF T wn d) "_check_trips")
  o__check_ways : FnOkG P w K mg base (2 * d) G.f__check_ways G.d__check_ways ["n", "ways"] (spEv mg 2 (callF T wn d) "_check_ways")
  o__is_row : FnOkG P w K mg base (2 * d) G.f__is_row G.d__is_row ["n", "place", "thing"] (spEv mg 3 (callF T wn d) "_is_row")
  o__is_table : FnOkG P w K mg base (2 * d) G.f__is_table G.d__is_table ["n", "thing"] (spEv mg 2 (callF T wn d) "_is_table")
  o__law_draw : FnOkG P w K mg base (2 * d) G.f__law_draw G.d__law_draw ["pool", "bound"] (spEv mg 2 (callF T wn d) "_law_draw")
  o__law_notice_some : FnOkG P w K mg base (2 * d) G.f__law_notice_some G.d__law_notice_some ["days", "longest"] (spEv mg 2 (callF T wn d) "_law_notice_some")
  o__law_pick : FnOkG P w K mg base (2 * d) G.f__law_pick G.d__law_pick ["pool", "things"] (spEv mg 2 (callF T wn d) "_law_pick")
  o__law_pool : FnOkG P w K mg base (2 * d) G.f__law_pool G.d__law_pool ["script"] (spEv mg 1 (callF T wn d) "_law_pool")
  o__law_term_loans : FnOkG P w K mg base (2 * d) G.f__law_term_loans G.d__law_term_loans ["pool", "web"] (spEv mg 2 (callF T wn d) "_law_term_loans")
  o__law_term_table : FnOkG P w K mg base (2 * d) G.f__law_term_table G.d__law_term_table ["pool", "n", "most"] (spEv mg 3 (callF T wn d) "_law_term_table")
  o__law_term_trips : FnOkG P w K mg base (2 * d) G.f__law_term_trips G.d__law_term_trips ["pool", "web"] (spEv mg 2 (callF T wn d) "_law_term_trips")
  o__law_turned : FnOkG P w K mg base (2 * d) G.f__law_turned G.d__law_turned ["pool", "bound"] (spEv mg 2 (callF T wn d) "_law_turned")
  o__law_web_any : FnOkG P w K mg base (2 * d) G.f__law_web_any G.d__law_web_any ["pool", "places", "most"] (spEv mg 3 (callF T wn d) "_law_web_any")
  o__law_web_days : FnOkG P w K mg base (2 * d) G.f__law_web_days G.d__law_web_days ["pool", "most"] (spEv mg 2 (callF T wn d) "_law_web_days")
  o__law_web_drawn : FnOkG P w K mg base (2 * d) G.f__law_web_drawn G.d__law_web_drawn ["pool", "n", "most", "further"] (spEv mg 4 (callF T wn d) "_law_web_drawn")
  o__law_web_joined : FnOkG P w K mg base (2 * d) G.f__law_web_joined G.d__law_web_joined ["n", "ways"] (spEv mg 2 (callF T wn d) "_law_web_joined")
  o__law_web_least : FnOkG P w K mg base (2 * d) G.f__law_web_least G.d__law_web_least ["web"] (spEv mg 1 (callF T wn d) "_law_web_least")
  o__law_web_length : FnOkG P w K mg base (2 * d) G.f__law_web_length G.d__law_web_length ["ways"] (spEv mg 1 (callF T wn d) "_law_web_length")
  o__law_web_longest : FnOkG P w K mg base (2 * d) G.f__law_web_longest G.d__law_web_longest ["ways"] (spEv mg 1 (callF T wn d) "_law_web_longest")
  o__law_web_rims : FnOkG P w K mg base (2 * d) G.f__law_web_rims G.d__law_web_rims ["pool"] (spEv mg 1 (callF T wn d) "_law_web_rims")
  o__law_web_way : FnOkG P w K mg base (2 * d) G.f__law_web_way G.d__law_web_way ["one", "other", "days"] (spEv mg 3 (callF T wn d) "_law_web_way")
  o_are_loans : FnOkG P w K mg base (2 * d) G.f_are_loans G.d_are_loans ["terms"] (spEv mg 1 (callF T wn d) "are_loans")
  o_by_days : FnOkG P w K mg base (2 * d) G.f_by_days G.d_by_days ["way"] (spEv mg 1 (callF T wn d) "by_days")
  o_check_loans_terms : FnOkG P w K mg base (2 * d) G.f_check_loans_terms G.d_check_loans_terms ["thing"] (spEv mg 1 (callF T wn d) "check_loans_terms")
  o_check_loans_worths : FnOkG P w K mg base (2 * d) G.f_check_loans_worths G.d_check_loans_worths ["terms"] (spEv mg 1 (callF T wn d) "check_loans_worths")
  o_check_together : FnOkG P w K mg base (2 * d) G.f_check_together G.d_check_together ["n", "ways"] (spEv mg 2 (callF T wn d) "check_together")
  o_checked_terms : FnOkG P w K mg base (2 * d) G.f_checked_terms G.d_checked_terms ["n", "thing"] (spEv mg 2 (callF T wn d) "checked_terms")
  o_crates_by : FnOkG P w K mg base (2 * d) G.f_crates_by G.d_crates_by ["summands_told"] (spEv mg 1 (callF T wn d) "crates_by")
  o_days_in_all : FnOkG P w K mg base (2 * d) G.f_days_in_all G.d_days_in_all ["legs"] (spEv mg 1 (callF T wn d) "days_in_all")
  o_days_of_longest : FnOkG P w K mg base (2 * d) G.f_days_of_longest G.d_days_of_longest ["legs"] (spEv mg 1 (callF T wn d) "days_of_longest")
  o_fresh : FnOkG P w K mg base (2 * d) G.f_fresh G.d_fresh ["thing"] (spEv mg 1 (callF T wn d) "fresh")
  o_is_number : FnOkG P w K mg base (2 * d) G.f_is_number G.d_is_number ["thing"] (spEv mg 1 (callF T wn d) "is_number")
  o_is_numbers : FnOkG P w K mg base (2 * d) G.f_is_numbers G.d_is_numbers ["thing", "many"] (spEv mg 2 (callF T wn d) "is_numbers")
  o_is_within : FnOkG P w K mg base (2 * d) G.f_is_within G.d_is_within ["thing", "least", "most"] (spEv mg 3 (callF T wn d) "is_within")
  o_joined : FnOkG P w K mg base (2 * d) G.f_joined G.d_joined ["labels", "u", "v"] (spEv mg 3 (callF T wn d) "joined")
  o_labels_of : FnOkG P w K mg base (2 * d) G.f_labels_of G.d_labels_of ["n", "ways"] (spEv mg 2 (callF T wn d) "labels_of")
  o_law : FnOkG P w K mg base (2 * d) G.f_law G.d_law ["script"] (spEv mg 1 (callF T wn d) "law")
  o_least_legs : FnOkG P w K mg base (2 * d) G.f_least_legs G.d_least_legs ["n", "ways"] (spEv mg 2 (callF T wn d) "least_legs")
  o_loan_gain : FnOkG P w K mg base (2 * d) G.f_loan_gain G.d_loan_gain ["web", "terms"] (spEv mg 2 (callF T wn d) "loan_gain")
  o_made_terms : FnOkG P w K mg base (2 * d) G.f_made_terms G.d_made_terms ["web", "thing"] (spEv mg 2 (callF T wn d) "made_terms")
  o_made_web : FnOkG P w K mg base (2 * d) G.f_made_web G.d_made_web ["thing"] (spEv mg 1 (callF T wn d) "made_web")
  o_needed : FnOkG P w K mg base (2 * d) G.f_needed G.d_needed ["web", "terms"] (spEv mg 2 (callF T wn d) "needed")
  o_notice_gain : FnOkG P w K mg base (2 * d) G.f_notice_gain G.d_notice_gain ["web", "terms"] (spEv mg 2 (callF T wn d) "notice_gain")
  o_reserve_by : FnOkG P w K mg base (2 * d) G.f_reserve_by G.d_reserve_by ["summands_told"] (spEv mg 1 (callF T wn d) "reserve_by")
  o_summands : FnOkG P w K mg base (2 * d) G.f_summands G.d_summands ["web", "terms"] (spEv mg 2 (callF T wn d) "summands")
  o_summands_by : FnOkG P w K mg base (2 * d) G.f_summands_by G.d_summands_by ["terms", "legs"] (spEv mg 2 (callF T wn d) "summands_by")
  o_three_numbers : FnOkG P w K mg base (2 * d) G.f_three_numbers G.d_three_numbers ["terms"] (spEv mg 1 (callF T wn d) "three_numbers")
def t_is_number : Fn := ⟨1, 1, false, [(.ret (.and (.bi (.isi "int") [(.var 0)]) (.not (.bi (.isi "bool") [(.var 0)]))))]⟩
theorem p_is_number (G : Glob K mg) (hT : T "is_number" = some t_is_number) {d : Nat} (A : Ok P w base T wn G d) : FnOkG P w K mg base (2 * (d + 1)) G.f_is_number G.d_is_number ["thing"] (spEv mg 1 (callF T wn (d + 1)) "is_number") :=
  fn_ev (k := 2 * d + 1) (N := ["thing"]) G.F_is_number ⟨rfl, rfl, rfl, by decide +kernel, rfl, by decide +kernel, by decide +kernel⟩ hT rfl rfl fun cdv AA outer s H E g => (ss_cons (s_ret (e_and (e_isi isi_int G.n_isinstance (by decide +kernel) G.n_int (by decide +kernel) (e_var 0)) (e_one (e_not (e_isi isi_bool G.n_isinstance (by decide +kernel) G.n_bool (by decide +kernel) (e_var 0)))))) ss_nil)
def t_is_within : Fn := ⟨3, 3, false, [(.ret (.and (.call "is_number" [(.var 0)]) (.chain2 (.var 1) .le (.var 0) .le (.var 2))))]⟩
theorem p_is_within (G : Glob K mg) (hT : T "is_within" = some t_is_within) {d : Nat} (A : Ok P w base T wn G d) : FnOkG P w K mg base (2 * (d + 1)) G.f_is_within G.d_is_within ["thing", "least", "most"] (spEv mg 3 (callF T wn (d + 1)) "is_within") :=
  fn_ev (k := 2 * d + 1) (N := ["thing", "least", "most"]) G.F_is_within ⟨rfl, rfl, rfl, by decide +kernel, rfl, by decide +kernel, by decide +kernel⟩ hT rfl rfl fun cdv AA outer s H E g => (ss_cons (s_ret (e_and (e_call g A.o_is_number.up G.m_is_number G.k_is_number G.b_is_number (a_cons (e_var 0) a_nil)) (e_one (e_chain2 (op_leA g) (op_leA g) kLe kLe (e_var 1) (e_var 0) (e_var 2))))) ss_nil)
def t_is_numbers : Fn := ⟨2, 3, false, [(.ite (.or (.not (.bi (.isi "tuple") [(.var 0)])) (.cmp .ne (.bi .len [(.var 0)]) (.var 1))) [(.ret (.lit (.bool false)))] []), (.forS (.name 2) (.seq (.var 0)) [(.ite (.or (.not (.bi (.isi "int") [(.var 2)])) (.bi (.isi "bool") [(.var 2)])) [(.ret (.lit (.bool false)))] [])]), (.ret (.lit (.bool true)))]⟩
theorem p_is_numbers (G : Glob K mg) (hT : T "is_numbers" = some t_is_numbers) {d : Nat} (A : Ok P w base T wn G d) : FnOkG P w K mg base (2 * (d + 1)) G.f_is_numbers G.d_is_numbers ["thing", "many"] (spEv mg 2 (callF T wn (d + 1)) "is_numbers") :=
  fn_ev (k := 2 * d + 1) (N := ["thing", "many", "item"]) G.F_is_numbers ⟨rfl, rfl, rfl, by decide +kernel, rfl, by decide +kernel, by decide +kernel⟩ hT rfl rfl fun cdv AA outer s H E g => (ss_cons (s_ite (w_or (t_not (t_val (e_isi isi_tuple G.n_isinstance (by decide +kernel) G.n_tuple (by decide +kernel) (e_var 0)) plain_bi)) (w_one_or (t_cmp (op_neD g.un) kNe (nobehind _ (by decide) (by decide)) (e_bi call_len_seq kLen G.n_len (by decide +kernel) (a_cons (e_var 0) a_nil)) (e_var 1)))).pt (ss_cons (s_ret e_bool) ss_nil) ss_nil) (ss_cons (s_for g (i_seq (e_var 0)) (pg_loc 2 g.nd) (g_name 2) (ss_cons (s_ite (w_or (t_not (t_val (e_isi isi_int G.n_isinstance (by decide +kernel) G.n_int (by decide +kernel) (e_var 2)) plain_bi)) (w_one_or (t_val (e_isi isi_bool G.n_isinstance (by decide +kernel) G.n_bool (by decide +kernel) (e_var 2)) plain_bi))).pt (ss_cons (s_ret e_bool) ss_nil) ss_nil) ss_nil)) (ss_cons (s_ret e_bool) ss_nil)))
def t_fresh : Fn := ⟨1, 2, false, [(.ite (.not (.bi (.isi "tuple") [(.var 0)])) [(.ret (.var 0))] []), (.ret (.bi .tupOf [(.comp false [1] (.name 1) (.seq (.var 0)) none (.ite (.bi (.isi "tuple") [(.var 1)]) (.call "fresh" [(.var 1)]) (.var 1)))]))]⟩
theorem p_fresh (G : Glob K mg) (hT : T "fresh" = some t_fresh) {d : Nat} (A : Ok P w base T wn G d) : FnOkG P w K mg base (2 * (d + 1)) G.f_fresh G.d_fresh ["thing"] (spEv mg 1 (callF T wn (d + 1)) "fresh") :=
  fn_ev (k := 2 * d + 1) (N := ["thing", "item"]) G.F_fresh ⟨rfl, rfl, rfl, by decide +kernel, rfl, by decide +kernel, by decide +kernel⟩ hT rfl rfl fun cdv AA outer s H E g => (ss_cons (s_ite (t_not (t_val (e_isi isi_tuple G.n_isinstance (by decide +kernel) G.n_tuple (by decide +kernel) (e_var 0)) plain_bi)) (ss_cons (s_ret (e_var 0)) ss_nil) ss_nil) (ss_cons (s_ret (e_biT call_tuple_of kTupOf G.n_tuple (by decide +kernel) (a_cons (e_comp false g.calm g.nd  (i_seq (e_var 0)) (own := [("item", 1)]) (blkOk_by (by kernel_rfl)) (fun _ _ _ _ _ => (pg_loc 1 g.blk.nd)) (g_name 1) (by show 1 ∈ [1]; decide) (fun _ _ _ _ _ => c_none) (fun _ _ _ _ _ => (e_ite (t_val (e_isi isi_tuple G.n_isinstance (by decide +kernel) G.n_tuple (by decide +kernel) (e_var 1)) plain_bi) (e_call g.blk A.o_fresh.up G.m_fresh G.k_fresh G.b_fresh (a_cons (e_var 1) a_nil)) (e_var 1)))) a_nil))) ss_nil))
def t_joined : Fn := ⟨3, 6, false, [(.set 3 (.bi .min2 [(.ix (.var 0) (.var 1)), (.ix (.var 0) (.var 2))])), (.set 4 (.bi .max2 [(.ix (.var 0) (.var 1)), (.ix (.var 0) (.var 2))])), (.ret (.comp false [5] (.name 5) (.seq (.var 0)) none (.ite (.cmp .eq (.var 5) (.var 4)) (.var 3) (.var 5))))]⟩
theorem p_joined (G : Glob K mg) (hT : T "joined" = some t_joined) {d : Nat} (A : Ok P w base T wn G d) : FnOkG P w K mg base (2 * (d + 1)) G.f_joined G.d_joined ["labels", "u", "v"] (spEv mg 3 (callF T wn (d + 1)) "joined") :=
  fn_ev (k := 2 * d + 1) (N := ["labels", "u", "v", "low", "high", "label"]) G.F_joined ⟨rfl, rfl, rfl, by decide +kernel, rfl, by decide +kernel, by decide +kernel⟩ hT rfl rfl fun cdv AA outer s H E g => (ss_cons (s_set (i := 3) g.nd (e_bi (call_min2 g.calm) kMin2 G.n_min (by decide +kernel) (a_cons (e_ix (e_var 0) (e_var 1)) (a_cons (e_ix (e_var 0) (e_var 2)) a_nil)))) (ss_cons (s_set (i := 4) g.nd (e_bi (call_max2 g.calm) kMax2 G.n_max (by decide +kernel) (a_cons (e_ix (e_var 0) (e_var 1)) (a_cons (e_ix (e_var 0) (e_var 2)) a_nil)))) (ss_cons (s_ret (e_comp false g.calm g.nd  (i_seq (e_var 0)) (own := [("label", 5)]) (blkOk_by (by kernel_rfl)) (fun _ _ _ _ _ => (pg_loc 5 g.blk.nd)) (g_name 5) (by show 5 ∈ [5]; decide) (fun _ _ _ _ _ => c_none) (fun _ _ _ _ _ => (e_ite (t_cmp (op_eqD g.blk.un) kEq (nobehind _ (by decide) (by decide)) (e_var 5) (e_var 4)) (e_var 3) (e_var 5))))) ss_nil)))
def t_labels_of : Fn := ⟨2, 6, false, [(.set 2 (.bi (.rangeList false) [(.var 0)])), (.forS (.tup [3, 4, 5]) (.seq (.var 1)) [(.ite (.cmp .ne (.ix (.var 2) (.var 3)) (.ix (.var 2) (.var 4))) [(.set 2 (.call "joined" [(.var 2), (.var 3), (.var 4)]))] [])]), (.ret (.var 2))]⟩
theorem p_labels_of (G : Glob K mg) (hT : T "labels_of" = some t_labels_of) {d : Nat} (A : Ok P w base T wn G d) : FnOkG P w K mg base (2 * (d + 1)) G.f_labels_of G.d_labels_of ["n", "ways"] (spEv mg 2 (callF T wn (d + 1)) "labels_of") :=
  fn_ev (k := 2 * d + 1) (N := ["n", "ways", "labels", "u", "v", "_"]) G.F_labels_of ⟨rfl, rfl, rfl, by decide +kernel, rfl, by decide +kernel, by decide +kernel⟩ hT rfl rfl fun cdv AA outer s H E g => (ss_cons (s_set (i := 2) g.nd (e_rangeList false g.calm G.n_list G.n_range (e_var 0))) (ss_cons (s_for g (i_seq (e_var 1)) (pg_tup g.calm (pgs_cons (pg_loc 3 g.nd) (pgs_cons (pg_loc 4 g.nd) (pgs_cons (pg_loc 5 g.nd) pgs_nil)))) (g_tup [3, 4, 5]) (ss_cons (s_ite (t_cmp (op_neD g.un) kNe (nobehind _ (by decide) (by decide)) (e_ix (e_var 2) (e_var 3)) (e_ix (e_var 2) (e_var 4))) (ss_cons (s_set (i := 2) g.nd (e_call g A.o_joined.up G.m_joined G.k_joined G.b_joined (a_cons (e_var 2) (a_cons (e_var 3) (a_cons (e_var 4) a_nil))))) ss_nil) ss_nil) ss_nil)) (ss_cons (s_ret (e_var 2)) ss_nil)))
def t_check_together : Fn := ⟨2, 4, false, [(.forS (.tup [2, 3]) (.enum (.call "labels_of" [(.var 0), (.var 1)])) [(.ite (.cmp .ne (.var 3) (.lit (.int 0))) [.dead] [])])]⟩
theorem p_check_together (G : Glob K mg) (hT : T "check_together" = some t_check_together) {d : Nat} (A : Ok P w base T wn G d) : FnOkG P w K mg base (2 * (d + 1)) G.f_check_together G.d_check_together ["n", "ways"] (spEv mg 2 (callF T wn (d + 1)) "check_together") :=
  fn_ev (k := 2 * d + 1) (N := ["n", "ways", "place", "label"]) G.F_check_together ⟨rfl, rfl, rfl, by decide +kernel, rfl, by decide +kernel, by decide +kernel⟩ hT rfl rfl fun cdv AA outer s H E g => (ss_cons (s_for g (i_enum G.n_enumerate (e_call g A.o_labels_of.up G.m_labels_of G.k_labels_of G.b_labels_of (a_cons (e_var 0) (a_cons (e_var 1) a_nil)))) (pg_tup g.calm (pgs_cons (pg_loc 2 g.nd) (pgs_cons (pg_loc 3 g.nd) pgs_nil))) (g_tup [2, 3]) (ss_cons (s_ite (t_cmp (op_neD g.un) kNe (nobehind _ (by decide) (by decide)) (e_var 3) e_int) (ss_cons s_dead ss_nil) ss_nil) ss_nil)) ss_nil)
def t_made_web : Fn := ⟨1, 6, false, [(.ite (.or (.not (.bi (.isi "tuple") [(.var 0)])) (.cmp .ne (.bi .len [(.var 0)]) (.lit (.int 2)))) [.dead] []), (.unpack [1, 2] (.var 0)), (.ite (.not (.call "is_within" [(.var 1), (.lit (.int 1)), (.lit (.int 40))])) [.dead] []), (.ite (.not (.bi (.isi "tuple") [(.var 2)])) [.dead] []), (.expr (.call "_check_ways" [(.var 1), (.var 2)])), (.expr (.call "check_together" [(.var 1), (.var 2)])), (.ret (.tup [(.var 1), (.bi .tupOf [(.comp false [3, 4, 5] (.tup [3, 4, 5]) (.seq (.var 2)) none (.tup [(.var 3), (.var 4), (.var 5)]))])]))]⟩
theorem p_made_web (G : Glob K mg) (hT : T "made_web" = some t_made_web) {d : Nat} (A : Ok P w base T wn G d) : FnOkG P w K mg base (2 * (d + 1)) G.f_made_web G.d_made_web ["thing"] (spEv mg 1 (callF T wn (d + 1)) "made_web") :=
  fn_ev (k := 2 * d + 1) (N := ["thing", "n", "ways", "u", "v", "d"]) G.F_made_web ⟨rfl, rfl, rfl, by decide +kernel, rfl, by decide +kernel, by decide +kernel⟩ hT rfl rfl fun cdv AA outer s H E g => (ss_cons (s_ite (w_or (t_not (t_val (e_isi isi_tuple G.n_isinstance (by decide +kernel) G.n_tuple (by decide +kernel) (e_var 0)) plain_bi)) (w_one_or (t_cmp (op_neD g.un) kNe (nobehind _ (by decide) (by decide)) (e_bi call_len_seq kLen G.n_len (by decide +kernel) (a_cons (e_var 0) a_nil)) e_int))).pt (ss_cons s_dead ss_nil) ss_nil) (ss_cons (s_unpack (is := [1, 2]) g.calm (e_var 0) (pgs_cons (pg_loc 1 g.nd) (pgs_cons (pg_loc 2 g.nd) pgs_nil))) (ss_cons (s_ite (t_not (t_val (e_call g A.o_is_within.up G.m_is_within G.k_is_within G.b_is_within (a_cons (e_var 1) (a_cons e_int (a_cons (e_globI G.i_MOST_PLACES.choose_spec) a_nil)))) plain_call)) (ss_cons s_dead ss_nil) ss_nil) (ss_cons (s_ite (t_not (t_val (e_isi isi_tuple G.n_isinstance (by decide +kernel) G.n_tuple (by decide +kernel) (e_var 2)) plain_bi)) (ss_cons s_dead ss_nil) ss_nil) (ss_cons (s_expr (e_call g A.o__check_ways.up G.m__check_ways G.k__check_ways G.b__check_ways (a_cons (e_var 1) (a_cons (e_var 2) a_nil)))) (ss_cons (s_expr (e_call g A.o_check_together.up G.m_check_together G.k_check_together G.b_check_together (a_cons (e_var 1) (a_cons (e_var 2) a_nil)))) (ss_cons (s_ret (e_tup (a_cons (e_var 1) (a_cons (e_biT call_tuple_of kTupOf G.n_tuple (by decide +kernel) (a_cons (e_comp false g.calm g.nd  (i_seq (e_var 2)) (own := [("u", 3), ("v", 4), ("d", 5)]) (blkOk_by (by kernel_rfl)) (fun _ _ _ _ _ => (pg_tup g.blk.calm (pgs_cons (pg_loc 3 g.blk.nd) (pgs_cons (pg_loc 4 g.blk.nd) (pgs_cons (pg_loc 5 g.blk.nd) pgs_nil))))) (g_tup [3, 4, 5]) (by show ∀ i ∈ [3, 4, 5], i ∈ [3, 4, 5]; decide) (fun _ _ _ _ _ => c_none) (fun _ _ _ _ _ => (e_tup (a_cons (e_var 3) (a_cons (e_var 4) (a_cons (e_var 5) a_nil)))))) a_nil)) a_nil)))) ss_nil)))))))
def t__check_ways : Fn := ⟨2, 8, false, [(.set 2 (.tup [(.neg (.lit (.int 1))), (.neg (.lit (.int 1)))])), (.forS (.tup [3, 4]) (.enum (.var 1)) [(.ite (.not (.call "is_numbers" [(.var 4), (.lit (.int 3))])) [.dead] []), (.unpack [5, 6, 7] (.var 4)), (.ite (.or (.not (.chain3 (.lit (.int 0)) .le (.var 5) .lt (.var 6) .lt (.var 0))) (.or (.not (.chain2 (.lit (.int 1)) .le (.var 7) .le (.lit (.int 200)))) (.cmp .le (.tup [(.var 5), (.var 6)]) (.var 2)))) [.dead] []), (.set 2 (.tup [(.var 5), (.var 6)]))])]⟩
theorem p__check_ways (G : Glob K mg) (hT : T "_check_ways" = some t__check_ways) {d : Nat} (A : Ok P w base T wn G d) : FnOkG P w K mg base (2 * (d + 1)) G.f__check_ways G.d__check_ways ["n", "ways"] (spEv mg 2 (callF T wn (d + 1)) "_check_ways") :=
  fn_ev (k := 2 * d + 1) (N := ["n", "ways", "ahead", "index", "way", "u", "v", "d"]) G.F__check_ways ⟨rfl, rfl, rfl, by decide +kernel, rfl, by decide +kernel, by decide +kernel⟩ hT rfl rfl fun cdv AA outer s H E g => (ss_cons (s_set (i := 2) g.nd (e_tup (a_cons (e_neg e_int) (a_cons (e_neg e_int) a_nil)))) (ss_cons (s_for g (i_enum G.n_enumerate (e_var 1)) (pg_tup g.calm (pgs_cons (pg_loc 3 g.nd) (pgs_cons (pg_loc 4 g.nd) pgs_nil))) (g_tup [3, 4]) (ss_cons (s_ite (t_not (t_val (e_call g A.o_is_numbers.up G.m_is_numbers G.k_is_numbers G.b_is_numbers (a_cons (e_var 4) (a_cons e_int a_nil))) plain_call)) (ss_cons s_dead ss_nil) ss_nil) (ss_cons (s_unpack (is := [5, 6, 7]) g.calm (e_var 4) (pgs_cons (pg_loc 5 g.nd) (pgs_cons (pg_loc 6 g.nd) (pgs_cons (pg_loc 7 g.nd) pgs_nil)))) (ss_cons (s_ite (w_or (t_not (t_chain3 (op_leA g) op_lt op_lt kLe kLt kLt e_int (e_var 5) (e_var 6) (e_var 0))) (w_or (t_not (t_chain2 (op_leA g) (op_leA g) kLe kLe e_int (e_var 7) (e_globI G.i_MOST_DAYS.choose_spec))) (w_one_or (t_cmp (op_leA g) kLe (nobehind _ (by decide) (by decide)) (e_tup (a_cons (e_var 5) (a_cons (e_var 6) a_nil))) (e_var 2))))).pt (ss_cons s_dead ss_nil) ss_nil) (ss_cons (s_set (i := 2) g.nd (e_tup (a_cons (e_var 5) (a_cons (e_var 6) a_nil)))) ss_nil))))) ss_nil))
def t_made_terms : Fn := ⟨2, 4, false, [(.unpack [2, 3] (.call "made_web" [(.var 0)])), (.ret (.call "checked_terms" [(.var 2), (.var 1)]))]⟩
theorem p_made_terms (G : Glob K mg) (hT : T "made_terms" = some t_made_terms) {d : Nat} (A : Ok P w base T wn G d) : FnOkG P w K mg base (2 * (d + 1)) G.f_made_terms G.d_made_terms ["web", "thing"] (spEv mg 2 (callF T wn (d + 1)) "made_terms") :=
  fn_ev (k := 2 * d + 1) (N := ["web", "thing", "n", "_"]) G.F_made_terms ⟨rfl, rfl, rfl, by decide +kernel, rfl, by decide +kernel, by decide +kernel⟩ hT rfl rfl fun cdv AA outer s H E g => (ss_cons (s_unpack (is := [2, 3]) g.calm (e_call g A.o_made_web.up G.m_made_web G.k_made_web G.b_made_web (a_cons (e_var 0) a_nil)) (pgs_cons (pg_loc 2 g.nd) (pgs_cons (pg_loc 3 g.nd) pgs_nil))) (ss_cons (s_ret (e_call g A.o_checked_terms.up G.m_checked_terms G.k_checked_terms G.b_checked_terms (a_cons (e_var 2) (a_cons (e_var 1) a_nil)))) ss_nil))
def t_checked_terms : Fn := ⟨2, 2, false, [(.ite (.call "_begins" [(.var 1), (.lit (.str "loans")), (.lit (.int 4))]) [(.expr (.call "check_loans_terms" [(.var 1)]))] [(.ite (.call "_begins" [(.var 1), (.lit (.str "trips")), (.lit (.int 3))]) [(.expr (.call "_check_trips" [(.var 0), (.var 1)]))] [.dead])]), (.ret (.call "fresh" [(.var 1)]))]⟩
theorem p_checked_terms (G : Glob K mg) (hT : T "checked_terms" = some t_checked_terms) {d : Nat} (A : Ok P w base T wn G d) : FnOkG P w K mg base (2 * (d + 1)) G.f_checked_terms G.d_checked_terms ["n", "thing"] (spEv mg 2 (callF T wn (d + 1)) "checked_terms") :=
  fn_ev (k := 2 * d + 1) (N := ["n", "thing"]) G.F_checked_terms ⟨rfl, rfl, rfl, by decide +kernel, rfl, by decide +kernel, by decide +kernel⟩ hT rfl rfl fun cdv AA outer s H E g => (ss_cons (s_ite (t_val (e_call g A.o__begins.up G.m__begins G.k__begins G.b__begins (a_cons (e_var 1) (a_cons e_str (a_cons e_int a_nil)))) plain_call) (ss_cons (s_expr (e_call g A.o_check_loans_terms.up G.m_check_loans_terms G.k_check_loans_terms G.b_check_loans_terms (a_cons (e_var 1) a_nil))) ss_nil) (ss_cons (s_ite (t_val (e_call g A.o__begins.up G.m__begins G.k__begins G.b__begins (a_cons (e_var 1) (a_cons e_str (a_cons e_int a_nil)))) plain_call) (ss_cons (s_expr (e_call g A.o__check_trips.up G.m__check_trips G.k__check_trips G.b__check_trips (a_cons (e_var 0) (a_cons (e_var 1) a_nil)))) ss_nil) (ss_cons s_dead ss_nil)) ss_nil)) (ss_cons (s_ret (e_call g A.o_fresh.up G.m_fresh G.k_fresh G.b_fresh (a_cons (e_var 1) a_nil))) ss_nil))
def t__begins : Fn := ⟨3, 3, false, [(.ret (.and (.bi (.isi "tuple") [(.var 0)]) (.and (.cmp .eq (.bi .len [(.var 0)]) (.var 2)) (.cmp .eq (.ix (.var 0) (.lit (.int 0))) (.var 1)))))]⟩
theorem p__begins (G : Glob K mg) (hT : T "_begins" = some t__begins) {d : Nat} (A : Ok P w base T wn G d) : FnOkG P w K mg base (2 * (d + 1)) G.f__begins G.d__begins ["thing", "word", "many"] (spEv mg 3 (callF T wn (d + 1)) "_begins") :=
  fn_ev (k := 2 * d + 1) (N := ["thing", "word", "many"]) G.F__begins ⟨rfl, rfl, rfl, by decide +kernel, rfl, by decide +kernel, by decide +kernel⟩ hT rfl rfl fun cdv AA outer s H E g => (ss_cons (s_ret (e_and (e_isi isi_tuple G.n_isinstance (by decide +kernel) G.n_tuple (by decide +kernel) (e_var 0)) (e_and (e_cmp (op_eqD g.un) kEq (nobehind _ (by decide) (by decide)) (e_bi call_len_seq kLen G.n_len (by decide +kernel) (a_cons (e_var 0) a_nil)) (e_var 2)) (e_one (e_cmp (op_eqD g.un) kEq (nobehind _ (by decide) (by decide)) (e_ix (e_var 0) e_int) (e_var 1)))))) ss_nil)
def t__check_loans : Fn := ⟨1, 1, false, [(.ite (.not (.call "are_loans" [(.var 0)])) [.dead] [])]⟩
theorem p__check_loans (G : Glob K mg) (hT : T "_check_loans" = some t__check_loans) {d : Nat} (A : Ok P w base T wn G d) : FnOkG P w K mg base (2 * (d + 1)) G.f__check_loans G.d__check_loans ["terms"] (spEv mg 1 (callF T wn (d + 1)) "_check_loans") :=
  fn_ev (k := 2 * d + 1) (N := ["terms"]) G.F__check_loans ⟨rfl, rfl, rfl, by decide +kernel, rfl, by decide +kernel, by decide +kernel⟩ hT rfl rfl fun cdv AA outer s H E g => (ss_cons (s_ite (t_not (t_val (e_call g A.o_are_loans.up G.m_are_loans G.k_are_loans G.b_are_loans (a_cons (e_var 0) a_nil)) plain_call)) (ss_cons s_dead ss_nil) ss_nil) ss_nil)
def t_check_loans_terms : Fn := ⟨1, 1, false, [(.ite (.not (.call "is_within" [(.ix (.var 0) (.lit (.int 1))), (.lit (.int 1)), (.lit (.int 20))])) [.dead] []), (.ite (.not (.call "is_within" [(.ix (.var 0) (.lit (.int 2))), (.lit (.int 1)), (.lit (.int 200))])) [.dead] []), (.ite (.not (.call "is_within" [(.ix (.var 0) (.lit (.int 3))), (.lit (.int 0)), (.ix (.var 0) (.lit (.int 2)))])) [.dead] [])]⟩
theorem p_check_loans_terms (G : Glob K mg) (hT : T "check_loans_terms" = some t_check_loans_terms) {d : Nat} (A : Ok P w base T wn G d) : FnOkG P w K mg base (2 * (d + 1)) G.f_check_loans_terms G.d_check_loans_terms ["thing"] (spEv mg 1 (callF T wn (d + 1)) "check_loans_terms") :=
  fn_ev (k := 2 * d + 1) (N := ["thing"]) G.F_check_loans_terms ⟨rfl, rfl, rfl, by decide +kernel, rfl, by decide +kernel, by decide +kernel⟩ hT rfl rfl fun cdv AA outer s H E g => (ss_cons (s_ite (t_not (t_val (e_call g A.o_is_within.up G.m_is_within G.k_is_within G.b_is_within (a_cons (e_ix (e_var 0) e_int) (a_cons e_int (a_cons (e_globI G.i_MOST_ASKS.choose_spec) a_nil)))) plain_call)) (ss_cons s_dead ss_nil) ss_nil) (ss_cons (s_ite (t_not (t_val (e_call g A.o_is_within.up G.m_is_within G.k_is_within G.b_is_within (a_cons (e_ix (e_var 0) e_int) (a_cons e_int (a_cons (e_globI G.i_MOST_DAYS.choose_spec) a_nil)))) plain_call)) (ss_cons s_dead ss_nil) ss_nil) (ss_cons (s_ite (t_not (t_val (e_call g A.o_is_within.up G.m_is_within G.k_is_within G.b_is_within (a_cons (e_ix (e_var 0) e_int) (a_cons e_int (a_cons (e_ix (e_var 0) e_int) a_nil)))) plain_call)) (ss_cons s_dead ss_nil) ss_nil) ss_nil)))
def t__check_trips : Fn := ⟨2, 2, false, [(.ite (.cmp .eq (.var 0) (.lit (.int 1))) [.dead] []), (.ite (.not (.call "is_within" [(.ix (.var 1) (.lit (.int 1))), (.lit (.int 1)), (.lit (.int 20))])) [.dead] []), (.ite (.not (.call "_is_table" [(.var 0), (.ix (.var 1) (.lit (.int 2)))])) [.dead] [])]⟩
theorem p__check_trips (G : Glob K mg) (hT : T "_check_trips" = some t__check_trips) {d : Nat} (A : Ok P w base T wn G d) : FnOkG P w K mg base (2 * (d + 1)) G.f__check_trips G.d__check_trips ["n", "thing"] (spEv mg 2 (callF T wn (d + 1)) "_check_trips") :=
  fn_ev (k := 2 * d + 1) (N := ["n", "thing"]) G.F__check_trips ⟨rfl, rfl, rfl, by decide +kernel, rfl, by decide +kernel, by decide +kernel⟩ hT rfl rfl fun cdv AA outer s H E g => (ss_cons (s_ite (t_cmp (op_eqD g.un) kEq (nobehind _ (by decide) (by decide)) (e_var 0) e_int) (ss_cons s_dead ss_nil) ss_nil) (ss_cons (s_ite (t_not (t_val (e_call g A.o_is_within.up G.m_is_within G.k_is_within G.b_is_within (a_cons (e_ix (e_var 1) e_int) (a_cons e_int (a_cons (e_globI G.i_MOST_ASKS.choose_spec) a_nil)))) plain_call)) (ss_cons s_dead ss_nil) ss_nil) (ss_cons (s_ite (t_not (t_val (e_call g A.o__is_table.up G.m__is_table G.k__is_table G.b__is_table (a_cons (e_var 0) (a_cons (e_ix (e_var 1) e_int) a_nil))) plain_call)) (ss_cons s_dead ss_nil) ss_nil) ss_nil)))
def t__is_table : Fn := ⟨2, 4, false, [(.ite (.or (.not (.bi (.isi "tuple") [(.var 1)])) (.cmp .ne (.bi .len [(.var 1)]) (.var 0))) [(.ret (.lit (.bool false)))] []), (.ret (.bi .all [(.comp false [2, 3] (.tup [2, 3]) (.enum (.var 1)) none (.call "_is_row" [(.var 0), (.var 2), (.var 3)]))]))]⟩
theorem p__is_table (G : Glob K mg) (hT : T "_is_table" = some t__is_table) {d : Nat} (A : Ok P w base T wn G d) : FnOkG P w K mg base (2 * (d + 1)) G.f__is_table G.d__is_table ["n", "thing"] (spEv mg 2 (callF T wn (d + 1)) "_is_table") :=
  fn_ev (k := 2 * d + 1) (N := ["n", "thing", "place", "row"]) G.F__is_table ⟨rfl, rfl, rfl, by decide +kernel, rfl, by decide +kernel, by decide +kernel⟩ hT rfl rfl fun cdv AA outer s H E g => (ss_cons (s_ite (w_or (t_not (t_val (e_isi isi_tuple G.n_isinstance (by decide +kernel) G.n_tuple (by decide +kernel) (e_var 1)) plain_bi)) (w_one_or (t_cmp (op_neD g.un) kNe (nobehind _ (by decide) (by decide)) (e_bi call_len_seq kLen G.n_len (by decide +kernel) (a_cons (e_var 1) a_nil)) (e_var 0)))).pt (ss_cons (s_ret e_bool) ss_nil) ss_nil) (ss_cons (s_ret (e_bi (cr_all g.calm) kAll G.n_all (by decide +kernel) (a_cons (e_comp false g.calm g.nd  (i_enum G.n_enumerate (e_var 1)) (own := [("place", 2), ("row", 3)]) (blkOk_by (by kernel_rfl)) (fun _ _ _ _ _ => (pg_tup g.blk.calm (pgs_cons (pg_loc 2 g.blk.nd) (pgs_cons (pg_loc 3 g.blk.nd) pgs_nil)))) (g_tup [2, 3]) (by show ∀ i ∈ [2, 3], i ∈ [2, 3]; decide) (fun _ _ _ _ _ => c_none) (fun _ _ _ _ _ => (e_call g.blk A.o__is_row.up G.m__is_row G.k__is_row G.b__is_row (a_cons (e_var 0) (a_cons (e_var 2) (a_cons (e_var 3) a_nil)))))) a_nil))) ss_nil))
def t__is_row : Fn := ⟨3, 4, false, [(.ite (.or (.not (.call "is_numbers" [(.var 2), (.var 0)])) (.cmp .ne (.ix (.var 2) (.var 1)) (.lit (.int 0)))) [(.ret (.lit (.bool false)))] []), (.ret (.bi .all [(.comp false [3] (.name 3) (.seq (.bin .add (.sl (.var 2) none (some (.var 1))) (.sl (.var 2) (some (.bin .add (.var 1) (.lit (.int 1)))) none))) none (.chain2 (.lit (.int 1)) .le (.var 3) .le (.lit (.int 200))))]))]⟩
theorem p__is_row (G : Glob K mg) (hT : T "_is_row" = some t__is_row) {d : Nat} (A : Ok P w base T wn G d) : FnOkG P w K mg base (2 * (d + 1)) G.f__is_row G.d__is_row ["n", "place", "thing"] (spEv mg 3 (callF T wn (d + 1)) "_is_row") :=
  fn_ev (k := 2 * d + 1) (N := ["n", "place", "thing", "days"]) G.F__is_row ⟨rfl, rfl, rfl, by decide +kernel, rfl, by decide +kernel, by decide +kernel⟩ hT rfl rfl fun cdv AA outer s H E g => (ss_cons (s_ite (w_or (t_not (t_val (e_call g A.o_is_numbers.up G.m_is_numbers G.k_is_numbers G.b_is_numbers (a_cons (e_var 2) (a_cons (e_var 0) a_nil))) plain_call)) (w_one_or (t_cmp (op_neD g.un) kNe (nobehind _ (by decide) (by decide)) (e_ix (e_var 2) (e_var 1)) e_int))).pt (ss_cons (s_ret e_bool) ss_nil) ss_nil) (ss_cons (s_ret (e_bi (cr_all g.calm) kAll G.n_all (by decide +kernel) (a_cons (e_comp false g.calm g.nd  (i_seq (e_add (e_sl (e_var 2) o_none (o_some (e_var 1))) (e_sl (e_var 2) (o_some (e_add (e_var 1) e_int)) o_none))) (own := [("days", 3)]) (blkOk_by (by kernel_rfl)) (fun _ _ _ _ _ => (pg_loc 3 g.blk.nd)) (g_name 3) (by show 3 ∈ [3]; decide) (fun _ _ _ _ _ => c_none) (fun _ _ _ _ _ => (e_chain2 (op_leA g.blk) (op_leA g.blk) kLe kLe e_int (e_var 3) (e_globI G.i_MOST_DAYS.choose_spec)))) a_nil))) ss_nil))
def t_are_loans : Fn := ⟨1, 1, false, [(.ret (.cmp .eq (.ix (.var 0) (.lit (.int 0))) (.lit (.str "loans"))))]⟩
theorem p_are_loans (G : Glob K mg) (hT : T "are_loans" = some t_are_loans) {d : Nat} (A : Ok P w base T wn G d) : FnOkG P w K mg base (2 * (d + 1)) G.f_are_loans G.d_are_loans ["terms"] (spEv mg 1 (callF T wn (d + 1)) "are_loans") :=
  fn_ev (k := 2 * d + 1) (N := ["terms"]) G.F_are_loans ⟨rfl, rfl, rfl, by decide +kernel, rfl, by decide +kernel, by decide +kernel⟩ hT rfl rfl fun cdv AA outer s H E g => (ss_cons (s_ret (e_cmp (op_eqD g.un) kEq (nobehind _ (by decide) (by decide)) (e_ix (e_var 0) e_int) e_str)) ss_nil)
def t_three_numbers : Fn := ⟨1, 3, false, [(.ite (.call "are_loans" [(.var 0)]) [(.ret (.sl (.var 0) (some (.lit (.int 1))) none))] []), (.set 1 (.bi .maxL [(.comp false [2] (.name 2) (.seq (.ix (.var 0) (.lit (.int 2)))) none (.bi .maxL [(.var 2)]))])), (.ret (.tup [(.ix (.var 0) (.lit (.int 1))), (.var 1), (.var 1)]))]⟩
theorem p_three_numbers (G : Glob K mg) (hT : T "three_numbers" = some t_three_numbers) {d : Nat} (A : Ok P w base T wn G d) : FnOkG P w K mg base (2 * (d + 1)) G.f_three_numbers G.d_three_numbers ["terms"] (spEv mg 1 (callF T wn (d + 1)) "three_numbers") :=
  fn_ev (k := 2 * d + 1) (N := ["terms", "longest", "row"]) G.F_three_numbers ⟨rfl, rfl, rfl, by decide +kernel, rfl, by decide +kernel, by decide +kernel⟩ hT rfl rfl fun cdv AA outer s H E g => (ss_cons (s_ite (t_val (e_call g A.o_are_loans.up G.m_are_loans G.k_are_loans G.b_are_loans (a_cons (e_var 0) a_nil)) plain_call) (ss_cons (s_ret (e_sl (e_var 0) (o_some e_int) o_none)) ss_nil) ss_nil) (ss_cons (s_set (i := 1) g.nd (e_bi (cr_max g.calm) kMaxL G.n_max (by decide +kernel) (a_cons (e_comp false g.calm g.nd  (i_seq (e_ix (e_var 0) e_int)) (own := [("row", 2)]) (blkOk_by (by kernel_rfl)) (fun _ _ _ _ _ => (pg_loc 2 g.blk.nd)) (g_name 2) (by show 2 ∈ [2]; decide) (fun _ _ _ _ _ => c_none) (fun _ _ _ _ _ => (e_bi (cr_max g.blk.calm) kMaxL G.n_max (by decide +kernel) (a_cons (e_var 2) a_nil)))) a_nil))) (ss_cons (s_ret (e_tup (a_cons (e_ix (e_var 0) e_int) (a_cons (e_var 1) (a_cons (e_var 1) a_nil))))) ss_nil)))
def t_days_in_all : Fn := ⟨1, 2, false, [(.ret (.bi .sum [(.comp false [1] (.name 1) (.seq (.var 0)) none (.ix (.var 1) (.lit (.int 2))))]))]⟩
theorem p_days_in_all (G : Glob K mg) (hT : T "days_in_all" = some t_days_in_all) {d : Nat} (A : Ok P w base T wn G d) : FnOkG P w K mg base (2 * (d + 1)) G.f_days_in_all G.d_days_in_all ["legs"] (spEv mg 1 (callF T wn (d + 1)) "days_in_all") :=
  fn_ev (k := 2 * d + 1) (N := ["legs", "leg"]) G.F_days_in_all ⟨rfl, rfl, rfl, by decide +kernel, rfl, by decide +kernel, by decide +kernel⟩ hT rfl rfl fun cdv AA outer s H E g => (ss_cons (s_ret (e_bi (cr_sum g.calm) kSum G.n_sum (by decide +kernel) (a_cons (e_comp false g.calm g.nd  (i_seq (e_var 0)) (own := [("leg", 1)]) (blkOk_by (by kernel_rfl)) (fun _ _ _ _ _ => (pg_loc 1 g.blk.nd)) (g_name 1) (by show 1 ∈ [1]; decide) (fun _ _ _ _ _ => c_none) (fun _ _ _ _ _ => (e_ix (e_var 1) e_int))) a_nil))) ss_nil)
def t_days_of_longest : Fn := ⟨1, 2, false, [(.ret (.bi .maxD [(.comp false [1] (.name 1) (.seq (.var 0)) none (.ix (.var 1) (.lit (.int 2)))), (.lit (.int 0))]))]⟩
theorem p_days_of_longest (G : Glob K mg) (hT : T "days_of_longest" = some t_days_of_longest) {d : Nat} (A : Ok P w base T wn G d) : FnOkG P w K mg base (2 * (d + 1)) G.f_days_of_longest G.d_days_of_longest ["legs"] (spEv mg 1 (callF T wn (d + 1)) "days_of_longest") :=
  fn_ev (k := 2 * d + 1) (N := ["legs", "leg"]) G.F_days_of_longest ⟨rfl, rfl, rfl, by decide +kernel, rfl, by decide +kernel, by decide +kernel⟩ hT rfl rfl fun cdv AA outer s H E g => (ss_cons (s_ret (e_maxD g.calm g.un G.n_max (e_comp false g.calm g.nd  (i_seq (e_var 0)) (own := [("leg", 1)]) (blkOk_by (by kernel_rfl)) (fun _ _ _ _ _ => (pg_loc 1 g.blk.nd)) (g_name 1) (by show 1 ∈ [1]; decide) (fun _ _ _ _ _ => c_none) (fun _ _ _ _ _ => (e_ix (e_var 1) e_int))) e_int)) ss_nil)
def t_by_days : Fn := ⟨1, 1, false, [(.ret (.tup [(.ix (.var 0) (.lit (.int 2))), (.ix (.var 0) (.lit (.int 0))), (.ix (.var 0) (.lit (.int 1)))]))]⟩
theorem p_by_days (G : Glob K mg) (hT : T "by_days" = some t_by_days) {d : Nat} (A : Ok P w base T wn G d) : FnOkG P w K mg base (2 * (d + 1)) G.f_by_days G.d_by_days ["way"] (spEv mg 1 (callF T wn (d + 1)) "by_days") :=
  fn_ev (k := 2 * d + 1) (N := ["way"]) G.F_by_days ⟨rfl, rfl, rfl, by decide +kernel, rfl, by decide +kernel, by decide +kernel⟩ hT rfl rfl fun cdv AA outer s H E g => (ss_cons (s_ret (e_tup (a_cons (e_ix (e_var 0) e_int) (a_cons (e_ix (e_var 0) e_int) (a_cons (e_ix (e_var 0) e_int) a_nil))))) ss_nil)
def t_least_legs : Fn := ⟨2, 7, false, [(.set 2 (.lst true [])), (.set 3 (.bi (.rangeList false) [(.var 0)])), (.forS (.tup [4, 5, 6]) (.seq (.sortK false "by_days" (.var 1))) [(.ite (.cmp .ne (.ix (.var 3) (.var 4)) (.ix (.var 3) (.var 5))) [(.expr (.meth .append (.var 2) [(.tup [(.var 4), (.var 5), (.var 6)])])), (.set 3 (.call "joined" [(.var 3), (.var 4), (.var 5)]))] [])]), (.ret (.var 2))]⟩
theorem p_least_legs (G : Glob K mg) (hT : T "least_legs" = some t_least_legs) {d : Nat} (A : Ok P w base T wn G d) : FnOkG P w K mg base (2 * (d + 1)) G.f_least_legs G.d_least_legs ["n", "ways"] (spEv mg 2 (callF T wn (d + 1)) "least_legs") :=
  fn_ev (k := 2 * d + 1) (N := ["n", "ways", "legs", "labels", "u", "v", "days"]) G.F_least_legs ⟨rfl, rfl, rfl, by decide +kernel, rfl, by decide +kernel, by decide +kernel⟩ hT rfl rfl fun cdv AA outer s H E g => (ss_cons (s_set (i := 2) g.nd (e_lst true a_nil)) (ss_cons (s_set (i := 3) g.nd (e_rangeList false g.calm G.n_list G.n_range (e_var 0))) (ss_cons (s_for g (i_seq (e_sortK false g A.o_by_days G.b_by_days G.m_by_days G.n_sorted (e_var 1))) (pg_tup g.calm (pgs_cons (pg_loc 4 g.nd) (pgs_cons (pg_loc 5 g.nd) (pgs_cons (pg_loc 6 g.nd) pgs_nil)))) (g_tup [4, 5, 6]) (ss_cons (s_ite (t_cmp (op_neD g.un) kNe (nobehind _ (by decide) (by decide)) (e_ix (e_var 3) (e_var 4)) (e_ix (e_var 3) (e_var 5))) (ss_cons (s_expr (e_append (e_var 2) (a_cons (e_tup (a_cons (e_var 4) (a_cons (e_var 5) (a_cons (e_var 6) a_nil)))) a_nil))) (ss_cons (s_set (i := 3) g.nd (e_call g A.o_joined.up G.m_joined G.k_joined G.b_joined (a_cons (e_var 3) (a_cons (e_var 4) (a_cons (e_var 5) a_nil))))) ss_nil)) ss_nil) ss_nil)) (ss_cons (s_ret (e_var 2)) ss_nil))))
def t_summands_by : Fn := ⟨2, 5, false, [(.unpack [2, 3, 4] (.call "three_numbers" [(.var 0)])), (.ret (.tup [(.var 2), (.call "days_in_all" [(.var 1)]), (.call "days_of_longest" [(.var 1)]), (.var 3), (.var 4)]))]⟩
theorem p_summands_by (G : Glob K mg) (hT : T "summands_by" = some t_summands_by) {d : Nat} (A : Ok P w base T wn G d) : FnOkG P w K mg base (2 * (d + 1)) G.f_summands_by G.d_summands_by ["terms", "legs"] (spEv mg 2 (callF T wn (d + 1)) "summands_by") :=
  fn_ev (k := 2 * d + 1) (N := ["terms", "legs", "k", "longest_out", "told"]) G.F_summands_by ⟨rfl, rfl, rfl, by decide +kernel, rfl, by decide +kernel, by decide +kernel⟩ hT rfl rfl fun cdv AA outer s H E g => (ss_cons (s_unpack (is := [2, 3, 4]) g.calm (e_call g A.o_three_numbers.up G.m_three_numbers G.k_three_numbers G.b_three_numbers (a_cons (e_var 0) a_nil)) (pgs_cons (pg_loc 2 g.nd) (pgs_cons (pg_loc 3 g.nd) (pgs_cons (pg_loc 4 g.nd) pgs_nil)))) (ss_cons (s_ret (e_tup (a_cons (e_var 2) (a_cons (e_call g A.o_days_in_all.up G.m_days_in_all G.k_days_in_all G.b_days_in_all (a_cons (e_var 1) a_nil)) (a_cons (e_call g A.o_days_of_longest.up G.m_days_of_longest G.k_days_of_longest G.b_days_of_longest (a_cons (e_var 1) a_nil)) (a_cons (e_var 3) (a_cons (e_var 4) a_nil))))))) ss_nil))
def t_reserve_by : Fn := ⟨1, 4, false, [(.unpack [1, 2, 3] (.sl (.var 0) (some (.lit (.int 2))) none)), (.ret (.bin .add (.var 2) (.bi .max2 [(.lit (.int 0)), (.bin .sub (.var 1) (.var 3))])))]⟩
theorem p_reserve_by (G : Glob K mg) (hT : T "reserve_by" = some t_reserve_by) {d : Nat} (A : Ok P w base T wn G d) : FnOkG P w K mg base (2 * (d + 1)) G.f_reserve_by G.d_reserve_by ["summands_told"] (spEv mg 1 (callF T wn (d + 1)) "reserve_by") :=
  fn_ev (k := 2 * d + 1) (N := ["summands_told", "longest", "longest_out", "told"]) G.F_reserve_by ⟨rfl, rfl, rfl, by decide +kernel, rfl, by decide +kernel, by decide +kernel⟩ hT rfl rfl fun cdv AA outer s H E g => (ss_cons (s_unpack (is := [1, 2, 3]) g.calm (e_sl (e_var 0) (o_some e_int) o_none) (pgs_cons (pg_loc 1 g.nd) (pgs_cons (pg_loc 2 g.nd) (pgs_cons (pg_loc 3 g.nd) pgs_nil)))) (ss_cons (s_ret (e_add (e_var 2) (e_bi (call_max2 g.calm) kMax2 G.n_max (by decide +kernel) (a_cons e_int (a_cons (e_sub (e_var 1) (e_var 3)) a_nil))))) ss_nil))
def t_crates_by : Fn := ⟨1, 1, false, [(.ret (.bin .mul (.ix (.var 0) (.lit (.int 0))) (.bin .add (.ix (.var 0) (.lit (.int 1))) (.call "reserve_by" [(.var 0)]))))]⟩
theorem p_crates_by (G : Glob K mg) (hT : T "crates_by" = some t_crates_by) {d : Nat} (A : Ok P w base T wn G d) : FnOkG P w K mg base (2 * (d + 1)) G.f_crates_by G.d_crates_by ["summands_told"] (spEv mg 1 (callF T wn (d + 1)) "crates_by") :=
  fn_ev (k := 2 * d + 1) (N := ["summands_told"]) G.F_crates_by ⟨rfl, rfl, rfl, by decide +kernel, rfl, by decide +kernel, by decide +kernel⟩ hT rfl rfl fun cdv AA outer s H E g => (ss_cons (s_ret (e_mul (e_ix (e_var 0) e_int) (e_add (e_ix (e_var 0) e_int) (e_call g A.o_reserve_by.up G.m_reserve_by G.k_reserve_by G.b_reserve_by (a_cons (e_var 0) a_nil))))) ss_nil)
def t_needed : Fn := ⟨2, 2, false, [(.ret (.call "crates_by" [(.call "summands" [(.var 0), (.var 1)])]))]⟩
theorem p_needed (G : Glob K mg) (hT : T "needed" = some t_needed) {d : Nat} (A : Ok P w base T wn G d) : FnOkG P w K mg base (2 * (d + 1)) G.f_needed G.d_needed ["web", "terms"] (spEv mg 2 (callF T wn (d + 1)) "needed") :=
  fn_ev (k := 2 * d + 1) (N := ["web", "terms"]) G.F_needed ⟨rfl, rfl, rfl, by decide +kernel, rfl, by decide +kernel, by decide +kernel⟩ hT rfl rfl fun cdv AA outer s H E g => (ss_cons (s_ret (e_call g A.o_crates_by.up G.m_crates_by G.k_crates_by G.b_crates_by (a_cons (e_call g A.o_summands.up G.m_summands G.k_summands G.b_summands (a_cons (e_var 0) (a_cons (e_var 1) a_nil))) a_nil))) ss_nil)
def t_summands : Fn := ⟨2, 5, false, [(.set 2 (.call "made_terms" [(.var 0), (.var 1)])), (.unpack [3, 4] (.call "made_web" [(.var 0)])), (.ret (.call "summands_by" [(.var 2), (.call "least_legs" [(.var 3), (.var 4)])]))]⟩
theorem p_summands (G : Glob K mg) (hT : T "summands" = some t_summands) {d : Nat} (A : Ok P w base T wn G d) : FnOkG P w K mg base (2 * (d + 1)) G.f_summands G.d_summands ["web", "terms"] (spEv mg 2 (callF T wn (d + 1)) "summands") :=
  fn_ev (k := 2 * d + 1) (N := ["web", "terms", "good", "n", "ways"]) G.F_summands ⟨rfl, rfl, rfl, by decide +kernel, rfl, by decide +kernel, by decide +kernel⟩ hT rfl rfl fun cdv AA outer s H E g => (ss_cons (s_set (i := 2) g.nd (e_call g A.o_made_terms.up G.m_made_terms G.k_made_terms G.b_made_terms (a_cons (e_var 0) (a_cons (e_var 1) a_nil)))) (ss_cons (s_unpack (is := [3, 4]) g.calm (e_call g A.o_made_web.up G.m_made_web G.k_made_web G.b_made_web (a_cons (e_var 0) a_nil)) (pgs_cons (pg_loc 3 g.nd) (pgs_cons (pg_loc 4 g.nd) pgs_nil))) (ss_cons (s_ret (e_call g A.o_summands_by.up G.m_summands_by G.k_summands_by G.b_summands_by (a_cons (e_var 2) (a_cons (e_call g A.o_least_legs.up G.m_least_legs G.k_least_legs G.b_least_legs (a_cons (e_var 3) (a_cons (e_var 4) a_nil))) a_nil)))) ss_nil)))
def t_notice_gain : Fn := ⟨2, 3, false, [(.set 2 (.call "made_terms" [(.var 0), (.var 1)])), (.ite (.or (.not (.call "are_loans" [(.var 2)])) (.cmp .eq (.ix (.var 2) (.lit (.int 3))) (.ix (.var 2) (.lit (.int 2))))) [(.ret (.lit (.int 0)))] []), (.ret (.bin .sub (.call "needed" [(.var 0), (.var 2)]) (.call "needed" [(.var 0), (.bin .add (.sl (.var 2) none (some (.lit (.int 3)))) (.tup [(.bin .add (.ix (.var 2) (.lit (.int 3))) (.lit (.int 1)))]))])))]⟩
theorem p_notice_gain (G : Glob K mg) (hT : T "notice_gain" = some t_notice_gain) {d : Nat} (A : Ok P w base T wn G d) : FnOkG P w K mg base (2 * (d + 1)) G.f_notice_gain G.d_notice_gain ["web", "terms"] (spEv mg 2 (callF T wn (d + 1)) "notice_gain") :=
  fn_ev (k := 2 * d + 1) (N := ["web", "terms", "good"]) G.F_notice_gain ⟨rfl, rfl, rfl, by decide +kernel, rfl, by decide +kernel, by decide +kernel⟩ hT rfl rfl fun cdv AA outer s H E g => (ss_cons (s_set (i := 2) g.nd (e_call g A.o_made_terms.up G.m_made_terms G.k_made_terms G.b_made_terms (a_cons (e_var 0) (a_cons (e_var 1) a_nil)))) (ss_cons (s_ite (w_or (t_not (t_val (e_call g A.o_are_loans.up G.m_are_loans G.k_are_loans G.b_are_loans (a_cons (e_var 2) a_nil)) plain_call)) (w_one_or (t_cmp (op_eqD g.un) kEq (nobehind _ (by decide) (by decide)) (e_ix (e_var 2) e_int) (e_ix (e_var 2) e_int)))).pt (ss_cons (s_ret e_int) ss_nil) ss_nil) (ss_cons (s_ret (e_sub (e_call g A.o_needed.up G.m_needed G.k_needed G.b_needed (a_cons (e_var 0) (a_cons (e_var 2) a_nil))) (e_call g A.o_needed.up G.m_needed G.k_needed G.b_needed (a_cons (e_var 0) (a_cons (e_add (e_sl (e_var 2) o_none (o_some e_int)) (e_tup (a_cons (e_add (e_ix (e_var 2) e_int) e_int) a_nil))) a_nil))))) ss_nil)))
def t_check_loans_worths : Fn := ⟨1, 1, false, [(.ite (.not (.call "are_loans" [(.var 0)])) [.dead] [])]⟩
theorem p_check_loans_worths (G : Glob K mg) (hT : T "check_loans_worths" = some t_check_loans_worths) {d : Nat} (A : Ok P w base T wn G d) : FnOkG P w K mg base (2 * (d + 1)) G.f_check_loans_worths G.d_check_loans_worths ["terms"] (spEv mg 1 (callF T wn (d + 1)) "check_loans_worths") :=
  fn_ev (k := 2 * d + 1) (N := ["terms"]) G.F_check_loans_worths ⟨rfl, rfl, rfl, by decide +kernel, rfl, by decide +kernel, by decide +kernel⟩ hT rfl rfl fun cdv AA outer s H E g => (ss_cons (s_ite (t_not (t_val (e_call g A.o_are_loans.up G.m_are_loans G.k_are_loans G.b_are_loans (a_cons (e_var 0) a_nil)) plain_call)) (ss_cons s_dead ss_nil) ss_nil) ss_nil)
def t_loan_gain : Fn := ⟨2, 8, false, [(.expr (.call "check_loans_worths" [(.call "made_terms" [(.var 0), (.var 1)])])), (.unpack [3, 4, 5, 6, 7] (.call "summands" [(.var 0), (.var 1)])), (.set 2 (.call "crates_by" [(.tup [(.var 3), (.var 4), (.var 5), (.bin .add (.var 6) (.lit (.int 1))), (.var 7)])])), (.ret (.bin .sub (.var 2) (.call "crates_by" [(.tup [(.var 3), (.var 4), (.var 5), (.var 6), (.var 7)])])))]⟩
theorem p_loan_gain (G : Glob K mg) (hT : T "loan_gain" = some t_loan_gain) {d : Nat} (A : Ok P w base T wn G d) : FnOkG P w K mg base (2 * (d + 1)) G.f_loan_gain G.d_loan_gain ["web", "terms"] (spEv mg 2 (callF T wn (d + 1)) "loan_gain") :=
  fn_ev (k := 2 * d + 1) (N := ["web", "terms", "longer", "k", "length", "longest", "longest_out", "told"]) G.F_loan_gain ⟨rfl, rfl, rfl, by decide +kernel, rfl, by decide +kernel, by decide +kernel⟩ hT rfl rfl fun cdv AA outer s H E g => (ss_cons (s_expr (e_call g A.o_check_loans_worths.up G.m_check_loans_worths G.k_check_loans_worths G.b_check_loans_worths (a_cons (e_call g A.o_made_terms.up G.m_made_terms G.k_made_terms G.b_made_terms (a_cons (e_var 0) (a_cons (e_var 1) a_nil))) a_nil))) (ss_cons (s_unpack (is := [3, 4, 5, 6, 7]) g.calm (e_call g A.o_summands.up G.m_summands G.k_summands G.b_summands (a_cons (e_var 0) (a_cons (e_var 1) a_nil))) (pgs_cons (pg_loc 3 g.nd) (pgs_cons (pg_loc 4 g.nd) (pgs_cons (pg_loc 5 g.nd) (pgs_cons (pg_loc 6 g.nd) (pgs_cons (pg_loc 7 g.nd) pgs_nil)))))) (ss_cons (s_set (i := 2) g.nd (e_call g A.o_crates_by.up G.m_crates_by G.k_crates_by G.b_crates_by (a_cons (e_tup (a_cons (e_var 3) (a_cons (e_var 4) (a_cons (e_var 5) (a_cons (e_add (e_var 6) e_int) (a_cons (e_var 7) a_nil)))))) a_nil))) (ss_cons (s_ret (e_sub (e_var 2) (e_call g A.o_crates_by.up G.m_crates_by G.k_crates_by G.b_crates_by (a_cons (e_tup (a_cons (e_var 3) (a_cons (e_var 4) (a_cons (e_var 5) (a_cons (e_var 6) (a_cons (e_var 7) a_nil)))))) a_nil)))) ss_nil))))
def t__law_pool : Fn := ⟨1, 3, true, [(.set 1 (.ite (.cmp .gt (.bi .len [(.var 0)]) (.lit (.int 0))) (.bi .int [(.ix (.var 0) (.lit (.int 0)))]) (.lit (.int 0)))), (.set 2 (.ite (.cmp .ge (.var 1) (.lit (.int 0))) (.bin .mul (.lit (.int 2)) (.var 1)) (.bin .sub (.neg (.lit (.int 1))) (.bin .mul (.lit (.int 2)) (.var 1))))), (.ret (.box [(.ite (.cmp .ge (.var 2) (.bin .pow (.lit (.int 10)) (.lit (.int 18)))) (.var 2) (.lit (.int 0))), (.bin .add (.bin .mod (.bi .int [(.bin .add (.bin .mul (.var 2) (.lit (.int 48271))) (.lit (.int 1009)))]) (.lit (.int 2147483629))) (.lit (.int 3))), (.bi (.listOf true) [(.sl (.var 0) (some (.lit (.int 1))) none)])]))]⟩
theorem p__law_pool (G : Glob K mg) (hT : T "_law_pool" = some t__law_pool) {d : Nat} (A : Ok P w base T wn G d) : FnOkG P w K mg base (2 * (d + 1)) G.f__law_pool G.d__law_pool ["script"] (spEv mg 1 (callF T wn (d + 1)) "_law_pool") :=
  fn_ev (k := 2 * d + 1) (N := ["script", "first", "size"]) G.F__law_pool ⟨rfl, rfl, rfl, by decide +kernel, rfl, by decide +kernel, by decide +kernel⟩ hT rfl rfl fun cdv AA outer s H E g => (ss_cons (s_set (i := 1) g.nd (e_ite (t_cmp op_gt kGt (nobehind _ (by decide) (by decide)) (e_bi call_len_seq kLen G.n_len (by decide +kernel) (a_cons (e_var 0) a_nil)) e_int) (e_biT call_int1 kInt G.n_int (by decide +kernel) (a_cons (e_ix (e_var 0) e_int) a_nil)) e_int)) (ss_cons (s_set (i := 2) g.nd (e_ite (t_cmp op_ge kGe (nobehind _ (by decide) (by decide)) (e_var 1) e_int) (e_mul e_int (e_var 1)) (e_sub (e_neg e_int) (e_mul e_int (e_var 1))))) (ss_cons (s_ret (e_box (a_cons (e_ite (t_cmp op_ge kGe (nobehind _ (by decide) (by decide)) (e_var 2) (e_pow e_int e_int)) (e_var 2) e_int) (a_cons (e_add (e_mod (e_biT call_int1 kInt G.n_int (by decide +kernel) (a_cons (e_add (e_mul (e_var 2) e_int) e_int) a_nil)) e_int) e_int) (a_cons (e_biT call_list_of (kListOf true) G.n_list (by decide +kernel) (a_cons (e_sl (e_var 0) (o_some e_int) o_none) a_nil)) a_nil))))) ss_nil)))
def t__law_draw : Fn := ⟨2, 5, false, [(.ite (.and (.cmp .eq (.ix (.var 0) (.lit (.int 0))) (.lit (.int 0))) (.cmp .ne (.ix (.var 0) (.lit (.int 2))) (.lst false []))) [(.set 2 (.bi .int [(.meth .popAt (.ix (.var 0) (.lit (.int 2))) [(.lit (.int 0))])])), (.set 3 (.ite (.cmp .ge (.var 2) (.lit (.int 0))) (.bin .mul (.lit (.int 2)) (.var 2)) (.bin .sub (.neg (.lit (.int 1))) (.bin .mul (.lit (.int 2)) (.var 2))))), (.setIx (.var 0) (.lit (.int 0)) (.ite (.cmp .ge (.var 3) (.bin .pow (.lit (.int 10)) (.lit (.int 18)))) (.var 3) (.lit (.int 0)))), (.setIx (.var 0) (.lit (.int 1)) (.bin .add (.bin .mod (.bi .int [(.bin .add (.ix (.var 0) (.lit (.int 1))) (.bin .mul (.var 3) (.lit (.int 69621))))]) (.lit (.int 2147483629))) (.lit (.int 3))))] []), (.ite (.cmp .gt (.ix (.var 0) (.lit (.int 0))) (.lit (.int 0))) [(.set 4 (.bin .mod (.bi .int [(.ix (.var 0) (.lit (.int 0)))]) (.var 1))), (.setIx (.var 0) (.lit (.int 0)) (.bin .fdiv (.ix (.var 0) (.lit (.int 0))) (.var 1))), (.ret (.var 4))] []), (.setIx (.var 0) (.lit (.int 1)) (.bin .mod (.bi .int [(.bin .add (.bin .mul (.ix (.var 0) (.lit (.int 1))) (.lit (.int 48271))) (.lit (.int 11)))]) (.lit (.int 2147483647)))), (.ret (.bin .mod (.bin .fdiv (.bin .mod (.bi .int [(.bin .mul (.ix (.var 0) (.lit (.int 1))) (.ix (.var 0) (.lit (.int 1))))]) (.lit (.int 2147483629))) (.lit (.int 32))) (.var 1)))]⟩
theorem p__law_draw (G : Glob K mg) (hT : T "_law_draw" = some t__law_draw) {d : Nat} (A : Ok P w base T wn G d) : FnOkG P w K mg base (2 * (d + 1)) G.f__law_draw G.d__law_draw ["pool", "bound"] (spEv mg 2 (callF T wn (d + 1)) "_law_draw") :=
  fn_ev (k := 2 * d + 1) (N := ["pool", "bound", "cell", "size", "found"]) G.F__law_draw ⟨rfl, rfl, rfl, by decide +kernel, rfl, by decide +kernel, by decide +kernel⟩ hT rfl rfl fun cdv AA outer s H E g => (ss_cons (s_ite (w_and (t_cmp (op_eqD g.un) kEq (nobehind _ (by decide) (by decide)) (e_ix (e_var 0) e_int) e_int) (w_one_and (t_cmp (op_neD g.un) kNe (nobehind _ (by decide) (by decide)) (e_ix (e_var 0) e_int) (e_lst false a_nil)))).pt (ss_cons (s_set (i := 2) g.nd (e_biT call_int1 kInt G.n_int (by decide +kernel) (a_cons (e_popAt (e_ix (e_var 0) e_int) (a_cons e_int a_nil)) a_nil))) (ss_cons (s_set (i := 3) g.nd (e_ite (t_cmp op_ge kGe (nobehind _ (by decide) (by decide)) (e_var 2) e_int) (e_mul e_int (e_var 2)) (e_sub (e_neg e_int) (e_mul e_int (e_var 2))))) (ss_cons (s_setIx g.u1 (e_ite (t_cmp op_ge kGe (nobehind _ (by decide) (by decide)) (e_var 3) (e_pow e_int e_int)) (e_var 3) e_int) (e_var 0) e_int) (ss_cons (s_setIx g.u1 (e_add (e_mod (e_biT call_int1 kInt G.n_int (by decide +kernel) (a_cons (e_add (e_ix (e_var 0) e_int) (e_mul (e_var 3) e_int)) a_nil)) e_int) e_int) (e_var 0) e_int) ss_nil)))) ss_nil) (ss_cons (s_ite (t_cmp op_gt kGt (nobehind _ (by decide) (by decide)) (e_ix (e_var 0) e_int) e_int) (ss_cons (s_set (i := 4) g.nd (e_mod (e_biT call_int1 kInt G.n_int (by decide +kernel) (a_cons (e_ix (e_var 0) e_int) a_nil)) (e_var 1))) (ss_cons (s_setIx g.u1 (e_fdiv (e_ix (e_var 0) e_int) (e_var 1)) (e_var 0) e_int) (ss_cons (s_ret (e_var 4)) ss_nil))) ss_nil) (ss_cons (s_setIx g.u1 (e_mod (e_biT call_int1 kInt G.n_int (by decide +kernel) (a_cons (e_add (e_mul (e_ix (e_var 0) e_int) e_int) e_int) a_nil)) e_int) (e_var 0) e_int) (ss_cons (s_ret (e_mod (e_fdiv (e_mod (e_biT call_int1 kInt G.n_int (by decide +kernel) (a_cons (e_mul (e_ix (e_var 0) e_int) (e_ix (e_var 0) e_int)) a_nil)) e_int) e_int) (e_var 1))) ss_nil))))
def t__law_pick : Fn := ⟨2, 2, false, [(.ret (.ix (.var 1) (.call "_law_draw" [(.var 0), (.bi .len [(.var 1)])])))]⟩
theorem p__law_pick (G : Glob K mg) (hT : T "_law_pick" = some t__law_pick) {d : Nat} (A : Ok P w base T wn G d) : FnOkG P w K mg base (2 * (d + 1)) G.f__law_pick G.d__law_pick ["pool", "things"] (spEv mg 2 (callF T wn (d + 1)) "_law_pick") :=
  fn_ev (k := 2 * d + 1) (N := ["pool", "things"]) G.F__law_pick ⟨rfl, rfl, rfl, by decide +kernel, rfl, by decide +kernel, by decide +kernel⟩ hT rfl rfl fun cdv AA outer s H E g => (ss_cons (s_ret (e_ix (e_var 1) (e_call g A.o__law_draw.up G.m__law_draw G.k__law_draw G.b__law_draw (a_cons (e_var 0) (a_cons (e_bi call_len_seq kLen G.n_len (by decide +kernel) (a_cons (e_var 1) a_nil)) a_nil))))) ss_nil)
def t__law_turned : Fn := ⟨2, 5, false, [(.par [3, 4] [(.bi (.rangeList true) [(.var 1)]), (.lst true [])]), (.forS (.name 2) (.range1 (.var 1)) [(.expr (.meth .append (.var 4) [(.meth .popAt (.var 3) [(.call "_law_draw" [(.var 0), (.bi .len [(.var 3)])])])]))]), (.ret (.var 4))]⟩
theorem p__law_turned (G : Glob K mg) (hT : T "_law_turned" = some t__law_turned) {d : Nat} (A : Ok P w base T wn G d) : FnOkG P w K mg base (2 * (d + 1)) G.f__law_turned G.d__law_turned ["pool", "bound"] (spEv mg 2 (callF T wn (d + 1)) "_law_turned") :=
  fn_ev (k := 2 * d + 1) (N := ["pool", "bound", "turn", "left", "found"]) G.F__law_turned ⟨rfl, rfl, rfl, by decide +kernel, rfl, by decide +kernel, by decide +kernel⟩ hT rfl rfl fun cdv AA outer s H E g => (ss_cons (s_par2 (i := 3) (j := 4) g.calm g.nd (a_cons (e_rangeList true g.calm G.n_list G.n_range (e_var 1)) (a_cons (e_lst true a_nil) a_nil))) (ss_cons (s_for g (i_range1 G.n_range (e_var 1)) (pg_loc 2 g.nd) (g_name 2) (ss_cons (s_expr (e_append (e_var 4) (a_cons (e_popAt (e_var 3) (a_cons (e_call g A.o__law_draw.up G.m__law_draw G.k__law_draw G.b__law_draw (a_cons (e_var 0) (a_cons (e_bi call_len_seq kLen G.n_len (by decide +kernel) (a_cons (e_var 3) a_nil)) a_nil))) a_nil)) a_nil))) ss_nil)) (ss_cons (s_ret (e_var 4)) ss_nil)))
def t__law_web_way : Fn := ⟨3, 3, false, [(.ret (.tup [(.bi .min2 [(.var 0), (.var 1)]), (.bi .max2 [(.var 0), (.var 1)]), (.var 2)]))]⟩
theorem p__law_web_way (G : Glob K mg) (hT : T "_law_web_way" = some t__law_web_way) {d : Nat} (A : Ok P w base T wn G d) : FnOkG P w K mg base (2 * (d + 1)) G.f__law_web_way G.d__law_web_way ["one", "other", "days"] (spEv mg 3 (callF T wn (d + 1)) "_law_web_way") :=
  fn_ev (k := 2 * d + 1) (N := ["one", "other", "days"]) G.F__law_web_way ⟨rfl, rfl, rfl, by decide +kernel, rfl, by decide +kernel, by decide +kernel⟩ hT rfl rfl fun cdv AA outer s H E g => (ss_cons (s_ret (e_tup (a_cons (e_bi (call_min2 g.calm) kMin2 G.n_min (by decide +kernel) (a_cons (e_var 0) (a_cons (e_var 1) a_nil))) (a_cons (e_bi (call_max2 g.calm) kMax2 G.n_max (by decide +kernel) (a_cons (e_var 0) (a_cons (e_var 1) a_nil))) (a_cons (e_var 2) a_nil))))) ss_nil)
def t__law_web_days : Fn := ⟨2, 2, false, [(.ret (.bin .add (.lit (.int 1)) (.call "_law_draw" [(.var 0), (.call "_law_pick" [(.var 0), (.lst false [(.bi .min2 [(.var 1), (.lit (.int 2))]), (.bi .min2 [(.var 1), (.lit (.int 3))]), (.var 1)])])])))]⟩
theorem p__law_web_days (G : Glob K mg) (hT : T "_law_web_days" = some t__law_web_days) {d : Nat} (A : Ok P w base T wn G d) : FnOkG P w K mg base (2 * (d + 1)) G.f__law_web_days G.d__law_web_days ["pool", "most"] (spEv mg 2 (callF T wn (d + 1)) "_law_web_days") :=
  fn_ev (k := 2 * d + 1) (N := ["pool", "most"]) G.F__law_web_days ⟨rfl, rfl, rfl, by decide +kernel, rfl, by decide +kernel, by decide +kernel⟩ hT rfl rfl fun cdv AA outer s H E g => (ss_cons (s_ret (e_add e_int (e_call g A.o__law_draw.up G.m__law_draw G.k__law_draw G.b__law_draw (a_cons (e_var 0) (a_cons (e_call g A.o__law_pick.up G.m__law_pick G.k__law_pick G.b__law_pick (a_cons (e_var 0) (a_cons (e_lst false (a_cons (e_bi (call_min2 g.calm) kMin2 G.n_min (by decide +kernel) (a_cons (e_var 1) (a_cons e_int a_nil))) (a_cons (e_bi (call_min2 g.calm) kMin2 G.n_min (by decide +kernel) (a_cons (e_var 1) (a_cons e_int a_nil))) (a_cons (e_var 1) a_nil)))) a_nil))) a_nil))))) ss_nil)
def t__law_web_drawn : Fn := ⟨4, 11, false, [(.par [6, 7] [(.call "_law_turned" [(.var 0), (.var 1)]), .dict0]), (.forS (.name 4) (.range2 (.lit (.int 1)) (.var 1)) [(.set 8 (.call "_law_web_way" [(.ix (.var 6) (.var 4)), (.ix (.var 6) (.call "_law_draw" [(.var 0), (.var 4)])), (.call "_law_web_days" [(.var 0), (.var 2)])])), (.setIx (.var 7) (.sl (.var 8) none (some (.lit (.int 2)))) (.var 8))]), (.forS (.name 5) (.range1 (.call "_law_draw" [(.var 0), (.bin .add (.var 3) (.lit (.int 1)))])) [(.par [9, 10] [(.call "_law_draw" [(.var 0), (.var 1)]), (.call "_law_draw" [(.var 0), (.var 1)])]), (.set 8 (.call "_law_web_way" [(.var 9), (.var 10), (.call "_law_web_days" [(.var 0), (.var 2)])])), (.ite (.and (.cmp .ne (.var 9) (.var 10)) (.inD true (.sl (.var 8) none (some (.lit (.int 2)))) (.var 7))) [(.setIx (.var 7) (.sl (.var 8) none (some (.lit (.int 2)))) (.var 8))] [])]), (.ret (.tup [(.var 1), (.bi .tupOf [(.svals false (.var 7))])]))]⟩
theorem p__law_web_drawn (G : Glob K mg) (hT : T "_law_web_drawn" = some t__law_web_drawn) {d : Nat} (A : Ok P w base T wn G d) : FnOkG P w K mg base (2 * (d + 1)) G.f__law_web_drawn G.d__law_web_drawn ["pool", "n", "most", "further"] (spEv mg 4 (callF T wn (d + 1)) "_law_web_drawn") :=
  fn_ev (k := 2 * d + 1) (N := ["pool", "n", "most", "further", "at", "turn", "names", "ways", "way", "one", "other"]) G.F__law_web_drawn ⟨rfl, rfl, rfl, by decide +kernel, rfl, by decide +kernel, by decide +kernel⟩ hT rfl rfl fun cdv AA outer s H E g => (ss_cons (s_par2 (i := 6) (j := 7) g.calm g.nd (a_cons (e_call g A.o__law_turned.up G.m__law_turned G.k__law_turned G.b__law_turned (a_cons (e_var 0) (a_cons (e_var 1) a_nil))) (a_cons e_dict0 a_nil))) (ss_cons (s_for g (i_range2 G.n_range e_int (e_var 1)) (pg_loc 4 g.nd) (g_name 4) (ss_cons (s_set (i := 8) g.nd (e_call g A.o__law_web_way.up G.m__law_web_way G.k__law_web_way G.b__law_web_way (a_cons (e_ix (e_var 6) (e_var 4)) (a_cons (e_ix (e_var 6) (e_call g A.o__law_draw.up G.m__law_draw G.k__law_draw G.b__law_draw (a_cons (e_var 0) (a_cons (e_var 4) a_nil)))) (a_cons (e_call g A.o__law_web_days.up G.m__law_web_days G.k__law_web_days G.b__law_web_days (a_cons (e_var 0) (a_cons (e_var 2) a_nil))) a_nil))))) (ss_cons (s_setIx g.u1 (e_var 8) (e_var 7) (e_sl (e_var 8) o_none (o_some e_int))) ss_nil))) (ss_cons (s_for g (i_range1 G.n_range (e_call g A.o__law_draw.up G.m__law_draw G.k__law_draw G.b__law_draw (a_cons (e_var 0) (a_cons (e_add (e_var 3) e_int) a_nil)))) (pg_loc 5 g.nd) (g_name 5) (ss_cons (s_par2 (i := 9) (j := 10) g.calm g.nd (a_cons (e_call g A.o__law_draw.up G.m__law_draw G.k__law_draw G.b__law_draw (a_cons (e_var 0) (a_cons (e_var 1) a_nil))) (a_cons (e_call g A.o__law_draw.up G.m__law_draw G.k__law_draw G.b__law_draw (a_cons (e_var 0) (a_cons (e_var 1) a_nil))) a_nil))) (ss_cons (s_set (i := 8) g.nd (e_call g A.o__law_web_way.up G.m__law_web_way G.k__law_web_way G.b__law_web_way (a_cons (e_var 9) (a_cons (e_var 10) (a_cons (e_call g A.o__law_web_days.up G.m__law_web_days G.k__law_web_days G.b__law_web_days (a_cons (e_var 0) (a_cons (e_var 2) a_nil))) a_nil))))) (ss_cons (s_ite (w_and (t_cmp (op_neD g.un) kNe (nobehind _ (by decide) (by decide)) (e_var 9) (e_var 10)) (w_one_and (t_notin g.u1 (e_sl (e_var 8) o_none (o_some e_int)) (e_var 7)))).pt (ss_cons (s_setIx g.u1 (e_var 8) (e_var 7) (e_sl (e_var 8) o_none (o_some e_int))) ss_nil) ss_nil) ss_nil)))) (ss_cons (s_ret (e_tup (a_cons (e_var 1) (a_cons (e_biT call_tuple_of kTupOf G.n_tuple (by decide +kernel) (a_cons (e_svals false g.calm g.un G.n_sorted (e_var 7)) a_nil)) a_nil)))) ss_nil))))
def t__law_web_rims : Fn := ⟨1, 11, false, [(.par [4, 5] [(.call "_law_draw" [(.var 0), (.lit (.int 8))]), (.bin .add (.lit (.int 1)) (.call "_law_draw" [(.var 0), (.lit (.int 200))]))]), (.ite (.cmp .eq (.var 4) (.lit (.int 0))) [(.ret (.tup [(.lit (.int 1)), (.tup [])]))] []), (.ite (.cmp .eq (.var 4) (.lit (.int 1))) [(.ret (.tup [(.lit (.int 2)), (.tup [(.tup [(.lit (.int 0)), (.lit (.int 1)), (.call "_law_pick" [(.var 0), (.lst false [(.lit (.int 1)), (.var 5), (.lit (.int 200))])])])])]))] []), (.set 1 (.ite (.cmp .lt (.var 4) (.lit (.int 5))) (.call "_law_pick" [(.var 0), (.lst false [(.bin .add (.lit (.int 11)) (.call "_law_draw" [(.var 0), (.lit (.int 30))])), (.lit (.int 40))])]) (.bin .add (.lit (.int 3)) (.call "_law_draw" [(.var 0), (.lit (.int 4))])))), (.ite (.and (.cmp .eq (.var 4) (.lit (.int 5))) (.cmp .eq (.call "_law_draw" [(.var 0), (.lit (.int 3))]) (.lit (.int 0)))) [(.set 1 (.bin .add (.lit (.int 11)) (.call "_law_draw" [(.var 0), (.lit (.int 30))])))] []), (.ite (.cmp .eq (.var 4) (.lit (.int 2))) [(.set 6 (.call "_law_draw" [(.var 0), (.var 1)])), (.set 2 (.comp false [9] (.name 9) (.range1 (.var 1)) (some (.cmp .ne (.var 9) (.var 6))) (.call "_law_web_way" [(.var 6), (.var 9), (.bin .add (.lit (.int 1)) (.bin .mod (.bi .int [(.bin .mul (.var 9) (.var 5))]) (.lit (.int 200))))]))), (.ret (.tup [(.var 1), (.bi .tupOf [(.bi (.sorted false) [(.var 2)])])]))] []), (.ite (.cmp .lt (.var 4) (.lit (.int 5))) [(.ite (.cmp .eq (.var 4) (.lit (.int 4))) [(.ret (.call "_law_web_drawn" [(.var 0), (.var 1), (.lit (.int 200)), (.lit (.int 6))]))] []), (.set 7 (.call "_law_turned" [(.var 0), (.var 1)])), (.set 2 (.comp false [9] (.name 9) (.range2 (.lit (.int 1)) (.var 1)) none (.call "_law_web_way" [(.ix (.var 7) (.var 9)), (.ix (.var 7) (.bin .sub (.var 9) (.lit (.int 1)))), (.bin .add (.lit (.int 1)) (.bin .mod (.bi .int [(.bin .mul (.var 9) (.var 5))]) (.lit (.int 200))))]))), (.ret (.tup [(.var 1), (.bi .tupOf [(.bi (.sorted false) [(.var 2)])])]))] []), (.ite (.cmp .eq (.var 4) (.lit (.int 5))) [(.par [7, 8] [(.call "_law_turned" [(.var 0), (.var 1)]), (.call "_law_pick" [(.var 0), (.lst false [(.var 5), (.lit (.int 1)), (.lit (.int 2))])])]), (.set 2 (.comp false [9] (.name 9) (.range2 (.lit (.int 1)) (.var 1)) none (.call "_law_web_way" [(.ix (.var 7) (.var 9)), (.ix (.var 7) (.bin .sub (.var 9) (.lit (.int 1)))), (.lit (.int 2))]))), (.ret (.tup [(.var 1), (.bi .tupOf [(.bi (.sorted false) [(.bin .add (.var 2) (.lst false [(.call "_law_web_way" [(.ix (.var 7) (.lit (.int 0))), (.ix (.var 7) (.bin .sub (.var 1) (.lit (.int 1)))), (.var 8)])]))])])]))] []), (.set 2 (.lst false [])), (.forS (.name 3) (.range1 (.var 1)) [(.set 2 (.bin .add (.var 2) (.comp false [10] (.name 10) (.range2 (.bin .add (.var 3) (.lit (.int 1))) (.var 1)) none (.tup [(.var 3), (.var 10), (.ite (.cmp .eq (.var 4) (.lit (.int 6))) (.var 5) (.call "_law_web_days" [(.var 0), (.lit (.int 4))]))]))))]), (.ret (.tup [(.var 1), (.bi .tupOf [(.var 2)])]))]⟩
theorem p__law_web_rims (G : Glob K mg) (hT : T "_law_web_rims" = some t__law_web_rims) {d : Nat} (A : Ok P w base T wn G d) : FnOkG P w K mg base (2 * (d + 1)) G.f__law_web_rims G.d__law_web_rims ["pool"] (spEv mg 1 (callF T wn (d + 1)) "_law_web_rims") :=
  fn_ev (k := 2 * d + 1) (N := ["pool", "n", "ways", "one", "way", "far", "middle", "names", "long", "at", "other"]) G.F__law_web_rims ⟨rfl, rfl, rfl, by decide +kernel, rfl, by decide +kernel, by decide +kernel⟩ hT rfl rfl fun cdv AA outer s H E g => (ss_cons (s_parT (is := [4, 5]) g.calm (a_cons (e_call g A.o__law_draw.up G.m__law_draw G.k__law_draw G.b__law_draw (a_cons (e_var 0) (a_cons e_int a_nil))) (a_cons (e_add e_int (e_call g A.o__law_draw.up G.m__law_draw G.k__law_draw G.b__law_draw (a_cons (e_var 0) (a_cons e_int a_nil)))) a_nil)) (pgs_cons (pg_loc 4 g.nd) (pgs_cons (pg_loc 5 g.nd) pgs_nil))) (ss_cons (s_ite (t_cmp (op_eqD g.un) kEq (nobehind _ (by decide) (by decide)) (e_var 4) e_int) (ss_cons (s_ret (e_tup (a_cons e_int (a_cons (e_tup a_nil) a_nil)))) ss_nil) ss_nil) (ss_cons (s_ite (t_cmp (op_eqD g.un) kEq (nobehind _ (by decide) (by decide)) (e_var 4) e_int) (ss_cons (s_ret (e_tup (a_cons e_int (a_cons (e_tup (a_cons (e_tup (a_cons e_int (a_cons e_int (a_cons (e_call g A.o__law_pick.up G.m__law_pick G.k__law_pick G.b__law_pick (a_cons (e_var 0) (a_cons (e_lst false (a_cons e_int (a_cons (e_var 5) (a_cons e_int a_nil)))) a_nil))) a_nil)))) a_nil)) a_nil)))) ss_nil) ss_nil) (ss_cons (s_set (i := 1) g.nd (e_ite (t_cmp op_lt kLt (nobehind _ (by decide) (by decide)) (e_var 4) e_int) (e_call g A.o__law_pick.up G.m__law_pick G.k__law_pick G.b__law_pick (a_cons (e_var 0) (a_cons (e_lst false (a_cons (e_add e_int (e_call g A.o__law_draw.up G.m__law_draw G.k__law_draw G.b__law_draw (a_cons (e_var 0) (a_cons e_int a_nil)))) (a_cons e_int a_nil))) a_nil))) (e_add e_int (e_call g A.o__law_draw.up G.m__law_draw G.k__law_draw G.b__law_draw (a_cons (e_var 0) (a_cons e_int a_nil)))))) (ss_cons (s_ite (w_and (t_cmp (op_eqD g.un) kEq (nobehind _ (by decide) (by decide)) (e_var 4) e_int) (w_one_and (t_cmp (op_eqD g.un) kEq (nobehind _ (by decide) (by decide)) (e_call g A.o__law_draw.up G.m__law_draw G.k__law_draw G.b__law_draw (a_cons (e_var 0) (a_cons e_int a_nil))) e_int))).pt (ss_cons (s_set (i := 1) g.nd (e_add e_int (e_call g A.o__law_draw.up G.m__law_draw G.k__law_draw G.b__law_draw (a_cons (e_var 0) (a_cons e_int a_nil))))) ss_nil) ss_nil) (ss_cons (s_ite (t_cmp (op_eqD g.un) kEq (nobehind _ (by decide) (by decide)) (e_var 4) e_int) (ss_cons (s_set (i := 6) g.nd (e_call g A.o__law_draw.up G.m__law_draw G.k__law_draw G.b__law_draw (a_cons (e_var 0) (a_cons (e_var 1) a_nil)))) (ss_cons (s_setLc false g.calm g.nd  (sw_true rfl rfl rfl (by decide +kernel)) (i_range1 G.n_range (e_var 1)) (own := [("at", 9)]) (blkOk_by (by kernel_rfl)) (fun _ _ _ _ _ => (pg_loc 9 g.blk.nd)) (g_name 9) (by show 9 ∈ [9]; decide) (fun _ _ _ _ _ => (c_one (t_cmp (op_neD g.blk.un) kNe (nobehind _ (by decide) (by decide)) (e_var 9) (e_var 6)))) (fun _ _ _ _ _ => (e_call g.blk A.o__law_web_way.up G.m__law_web_way G.k__law_web_way G.b__law_web_way (a_cons (e_var 6) (a_cons (e_var 9) (a_cons (e_add e_int (e_mod (e_biT call_int1 kInt G.n_int (by decide +kernel) (a_cons (e_mul (e_var 9) (e_var 5)) a_nil)) e_int)) a_nil)))))) (ss_cons (s_ret (e_tup (a_cons (e_var 1) (a_cons (e_biT call_tuple_of kTupOf G.n_tuple (by decide +kernel) (a_cons (e_bi (cr_srt g.un) (kSrt false) G.n_sorted (by decide +kernel) (a_cons (e_var 2) a_nil)) a_nil)) a_nil)))) ss_nil))) ss_nil) (ss_cons (s_ite (t_cmp op_lt kLt (nobehind _ (by decide) (by decide)) (e_var 4) e_int) (ss_cons (s_ite (t_cmp (op_eqD g.un) kEq (nobehind _ (by decide) (by decide)) (e_var 4) e_int) (ss_cons (s_ret (e_call g A.o__law_web_drawn.up G.m__law_web_drawn G.k__law_web_drawn G.b__law_web_drawn (a_cons (e_var 0) (a_cons (e_var 1) (a_cons e_int (a_cons e_int a_nil)))))) ss_nil) ss_nil) (ss_cons (s_set (i := 7) g.nd (e_call g A.o__law_turned.up G.m__law_turned G.k__law_turned G.b__law_turned (a_cons (e_var 0) (a_cons (e_var 1) a_nil)))) (ss_cons (s_setLc false g.calm g.nd  (sw_true rfl rfl rfl (by decide +kernel)) (i_range2 G.n_range e_int (e_var 1)) (own := [("at", 9)]) (blkOk_by (by kernel_rfl)) (fun _ _ _ _ _ => (pg_loc 9 g.blk.nd)) (g_name 9) (by show 9 ∈ [9]; decide) (fun _ _ _ _ _ => c_none) (fun _ _ _ _ _ => (e_call g.blk A.o__law_web_way.up G.m__law_web_way G.k__law_web_way G.b__law_web_way (a_cons (e_ix (e_var 7) (e_var 9)) (a_cons (e_ix (e_var 7) (e_sub (e_var 9) e_int)) (a_cons (e_add e_int (e_mod (e_biT call_int1 kInt G.n_int (by decide +kernel) (a_cons (e_mul (e_var 9) (e_var 5)) a_nil)) e_int)) a_nil)))))) (ss_cons (s_ret (e_tup (a_cons (e_var 1) (a_cons (e_biT call_tuple_of kTupOf G.n_tuple (by decide +kernel) (a_cons (e_bi (cr_srt g.un) (kSrt false) G.n_sorted (by decide +kernel) (a_cons (e_var 2) a_nil)) a_nil)) a_nil)))) ss_nil)))) ss_nil) (ss_cons (s_ite (t_cmp (op_eqD g.un) kEq (nobehind _ (by decide) (by decide)) (e_var 4) e_int) (ss_cons (s_parT (is := [7, 8]) g.calm (a_cons (e_call g A.o__law_turned.up G.m__law_turned G.k__law_turned G.b__law_turned (a_cons (e_var 0) (a_cons (e_var 1) a_nil))) (a_cons (e_call g A.o__law_pick.up G.m__law_pick G.k__law_pick G.b__law_pick (a_cons (e_var 0) (a_cons (e_lst false (a_cons (e_var 5) (a_cons e_int (a_cons e_int a_nil)))) a_nil))) a_nil)) (pgs_cons (pg_loc 7 g.nd) (pgs_cons (pg_loc 8 g.nd) pgs_nil))) (ss_cons (s_setLc false g.calm g.nd  (sw_true rfl rfl rfl (by decide +kernel)) (i_range2 G.n_range e_int (e_var 1)) (own := [("at", 9)]) (blkOk_by (by kernel_rfl)) (fun _ _ _ _ _ => (pg_loc 9 g.blk.nd)) (g_name 9) (by show 9 ∈ [9]; decide) (fun _ _ _ _ _ => c_none) (fun _ _ _ _ _ => (e_call g.blk A.o__law_web_way.up G.m__law_web_way G.k__law_web_way G.b__law_web_way (a_cons (e_ix (e_var 7) (e_var 9)) (a_cons (e_ix (e_var 7) (e_sub (e_var 9) e_int)) (a_cons e_int a_nil)))))) (ss_cons (s_ret (e_tup (a_cons (e_var 1) (a_cons (e_biT call_tuple_of kTupOf G.n_tuple (by decide +kernel) (a_cons (e_bi (cr_srt g.un) (kSrt false) G.n_sorted (by decide +kernel) (a_cons (e_add (e_var 2) (e_lst false (a_cons (e_call g A.o__law_web_way.up G.m__law_web_way G.k__law_web_way G.b__law_web_way (a_cons (e_ix (e_var 7) e_int) (a_cons (e_ix (e_var 7) (e_sub (e_var 1) e_int)) (a_cons (e_var 8) a_nil)))) a_nil))) a_nil)) a_nil)) a_nil)))) ss_nil))) ss_nil) (ss_cons (s_set (i := 2) g.nd (e_lst false a_nil)) (ss_cons (s_for g (i_range1 G.n_range (e_var 1)) (pg_loc 3 g.nd) (g_name 3) (ss_cons (s_set (i := 2) g.nd (e_add (e_var 2) (e_comp false g.calm g.nd  (i_range2 G.n_range (e_add (e_var 3) e_int) (e_var 1)) (own := [("other", 10)]) (blkOk_by (by kernel_rfl)) (fun _ _ _ _ _ => (pg_loc 10 g.blk.nd)) (g_name 10) (by show 10 ∈ [10]; decide) (fun _ _ _ _ _ => c_none) (fun _ _ _ _ _ => (e_tup (a_cons (e_var 3) (a_cons (e_var 10) (a_cons (e_ite (t_cmp (op_eqD g.blk.un) kEq (nobehind _ (by decide) (by decide)) (e_var 4) e_int) (e_var 5) (e_call g.blk A.o__law_web_days.up G.m__law_web_days G.k__law_web_days G.b__law_web_days (a_cons (e_var 0) (a_cons e_int a_nil)))) a_nil)))))))) ss_nil)) (ss_cons (s_ret (e_tup (a_cons (e_var 1) (a_cons (e_biT call_tuple_of kTupOf G.n_tuple (by decide +kernel) (a_cons (e_var 2) a_nil)) a_nil)))) ss_nil)))))))))))
def t__law_web_any : Fn := ⟨3, 3, false, [(.ite (.cmp .eq (.call "_law_draw" [(.var 0), (.lit (.int 6))]) (.lit (.int 0))) [(.ret (.call "_law_web_rims" [(.var 0)]))] []), (.ret (.call "_law_web_drawn" [(.var 0), (.bin .add (.lit (.int 1)) (.call "_law_draw" [(.var 0), (.var 1)])), (.var 2), (.var 1)]))]⟩
theorem p__law_web_any (G : Glob K mg) (hT : T "_law_web_any" = some t__law_web_any) {d : Nat} (A : Ok P w base T wn G d) : FnOkG P w K mg base (2 * (d + 1)) G.f__law_web_any G.d__law_web_any ["pool", "places", "most"] (spEv mg 3 (callF T wn (d + 1)) "_law_web_any") :=
  fn_ev (k := 2 * d + 1) (N := ["pool", "places", "most"]) G.F__law_web_any ⟨rfl, rfl, rfl, by decide +kernel, rfl, by decide +kernel, by decide +kernel⟩ hT rfl rfl fun cdv AA outer s H E g => (ss_cons (s_ite (t_cmp (op_eqD g.un) kEq (nobehind _ (by decide) (by decide)) (e_call g A.o__law_draw.up G.m__law_draw G.k__law_draw G.b__law_draw (a_cons (e_var 0) (a_cons e_int a_nil))) e_int) (ss_cons (s_ret (e_call g A.o__law_web_rims.up G.m__law_web_rims G.k__law_web_rims G.b__law_web_rims (a_cons (e_var 0) a_nil))) ss_nil) ss_nil) (ss_cons (s_ret (e_call g A.o__law_web_drawn.up G.m__law_web_drawn G.k__law_web_drawn G.b__law_web_drawn (a_cons (e_var 0) (a_cons (e_add e_int (e_call g A.o__law_draw.up G.m__law_draw G.k__law_draw G.b__law_draw (a_cons (e_var 0) (a_cons (e_var 1) a_nil)))) (a_cons (e_var 2) (a_cons (e_var 1) a_nil)))))) ss_nil))
def t__law_web_joined : Fn := ⟨2, 10, false, [(.par [2, 3] [(.bi (.rangeList false) [(.var 0)]), (.lst true [])]), (.forS (.tup [4, 5, 6]) (.seq (.var 1)) [(.ite (.cmp .ne (.ix (.var 2) (.var 4)) (.ix (.var 2) (.var 5))) [(.expr (.meth .append (.var 3) [(.tup [(.var 4), (.var 5), (.var 6)])])), (.par [7, 8] [(.ix (.var 2) (.var 4)), (.ix (.var 2) (.var 5))]), (.set 2 (.comp false [9] (.name 9) (.seq (.var 2)) none (.ite (.cmp .eq (.var 9) (.var 7)) (.var 8) (.var 9))))] [])]), (.ret (.var 3))]⟩
theorem p__law_web_joined (G : Glob K mg) (hT : T "_law_web_joined" = some t__law_web_joined) {d : Nat} (A : Ok P w base T wn G d) : FnOkG P w K mg base (2 * (d + 1)) G.f__law_web_joined G.d__law_web_joined ["n", "ways"] (spEv mg 2 (callF T wn (d + 1)) "_law_web_joined") :=
  fn_ev (k := 2 * d + 1) (N := ["n", "ways", "lots", "found", "one", "other", "days", "gone", "kept", "lot"]) G.F__law_web_joined ⟨rfl, rfl, rfl, by decide +kernel, rfl, by decide +kernel, by decide +kernel⟩ hT rfl rfl fun cdv AA outer s H E g => (ss_cons (s_par2 (i := 2) (j := 3) g.calm g.nd (a_cons (e_rangeList false g.calm G.n_list G.n_range (e_var 0)) (a_cons (e_lst true a_nil) a_nil))) (ss_cons (s_for g (i_seq (e_var 1)) (pg_tup g.calm (pgs_cons (pg_loc 4 g.nd) (pgs_cons (pg_loc 5 g.nd) (pgs_cons (pg_loc 6 g.nd) pgs_nil)))) (g_tup [4, 5, 6]) (ss_cons (s_ite (t_cmp (op_neD g.un) kNe (nobehind _ (by decide) (by decide)) (e_ix (e_var 2) (e_var 4)) (e_ix (e_var 2) (e_var 5))) (ss_cons (s_expr (e_append (e_var 3) (a_cons (e_tup (a_cons (e_var 4) (a_cons (e_var 5) (a_cons (e_var 6) a_nil)))) a_nil))) (ss_cons (s_parT (is := [7, 8]) g.calm (a_cons (e_ix (e_var 2) (e_var 4)) (a_cons (e_ix (e_var 2) (e_var 5)) a_nil)) (pgs_cons (pg_loc 7 g.nd) (pgs_cons (pg_loc 8 g.nd) pgs_nil))) (ss_cons (s_setLc false g.calm g.nd  (sw_true rfl rfl rfl (by decide +kernel)) (i_seq (e_var 2)) (own := [("lot", 9)]) (blkOk_by (by kernel_rfl)) (fun _ _ _ _ _ => (pg_loc 9 g.blk.nd)) (g_name 9) (by show 9 ∈ [9]; decide) (fun _ _ _ _ _ => c_none) (fun _ _ _ _ _ => (e_ite (t_cmp (op_eqD g.blk.un) kEq (nobehind _ (by decide) (by decide)) (e_var 9) (e_var 7)) (e_var 8) (e_var 9)))) ss_nil))) ss_nil) ss_nil)) (ss_cons (s_ret (e_var 3)) ss_nil)))
def t__law_web_least : Fn := ⟨1, 5, false, [(.set 1 (.bi (.sorted false) [(.comp false [2, 3, 4] (.tup [2, 3, 4]) (.seq (.ix (.var 0) (.lit (.int 1)))) none (.tup [(.var 4), (.var 2), (.var 3)]))])), (.ret (.bi .tupOf [(.bi (.sorted false) [(.call "_law_web_joined" [(.ix (.var 0) (.lit (.int 0))), (.comp false [4, 2, 3] (.tup [4, 2, 3]) (.seq (.var 1)) none (.tup [(.var 2), (.var 3), (.var 4)]))])])]))]⟩
theorem p__law_web_least (G : Glob K mg) (hT : T "_law_web_least" = some t__law_web_least) {d : Nat} (A : Ok P w base T wn G d) : FnOkG P w K mg base (2 * (d + 1)) G.f__law_web_least G.d__law_web_least ["web"] (spEv mg 1 (callF T wn (d + 1)) "_law_web_least") :=
  fn_ev (k := 2 * d + 1) (N := ["web", "ways", "one", "other", "days"]) G.F__law_web_least ⟨rfl, rfl, rfl, by decide +kernel, rfl, by decide +kernel, by decide +kernel⟩ hT rfl rfl fun cdv AA outer s H E g => (ss_cons (s_set (i := 1) g.nd (e_bi (cr_srt g.un) (kSrt false) G.n_sorted (by decide +kernel) (a_cons (e_comp false g.calm g.nd  (i_seq (e_ix (e_var 0) e_int)) (own := [("one", 2), ("other", 3), ("days", 4)]) (blkOk_by (by kernel_rfl)) (fun _ _ _ _ _ => (pg_tup g.blk.calm (pgs_cons (pg_loc 2 g.blk.nd) (pgs_cons (pg_loc 3 g.blk.nd) (pgs_cons (pg_loc 4 g.blk.nd) pgs_nil))))) (g_tup [2, 3, 4]) (by show ∀ i ∈ [2, 3, 4], i ∈ [2, 3, 4]; decide) (fun _ _ _ _ _ => c_none) (fun _ _ _ _ _ => (e_tup (a_cons (e_var 4) (a_cons (e_var 2) (a_cons (e_var 3) a_nil)))))) a_nil))) (ss_cons (s_ret (e_biT call_tuple_of kTupOf G.n_tuple (by decide +kernel) (a_cons (e_bi (cr_srt g.un) (kSrt false) G.n_sorted (by decide +kernel) (a_cons (e_call g A.o__law_web_joined.up G.m__law_web_joined G.k__law_web_joined G.b__law_web_joined (a_cons (e_ix (e_var 0) e_int) (a_cons (e_comp false g.calm g.nd  (i_seq (e_var 1)) (own := [("days", 4), ("one", 2), ("other", 3)]) (blkOk_by (by kernel_rfl)) (fun _ _ _ _ _ => (pg_tup g.blk.calm (pgs_cons (pg_loc 4 g.blk.nd) (pgs_cons (pg_loc 2 g.blk.nd) (pgs_cons (pg_loc 3 g.blk.nd) pgs_nil))))) (g_tup [4, 2, 3]) (by show ∀ i ∈ [4, 2, 3], i ∈ [4, 2, 3]; decide) (fun _ _ _ _ _ => c_none) (fun _ _ _ _ _ => (e_tup (a_cons (e_var 2) (a_cons (e_var 3) (a_cons (e_var 4) a_nil)))))) a_nil))) a_nil)) a_nil))) ss_nil))
def t__law_web_length : Fn := ⟨1, 4, false, [(.ret (.bi .sum [(.comp false [1, 2, 3] (.tup [1, 2, 3]) (.seq (.var 0)) none (.var 3))]))]⟩
theorem p__law_web_length (G : Glob K mg) (hT : T "_law_web_length" = some t__law_web_length) {d : Nat} (A : Ok P w base T wn G d) : FnOkG P w K mg base (2 * (d + 1)) G.f__law_web_length G.d__law_web_length ["ways"] (spEv mg 1 (callF T wn (d + 1)) "_law_web_length") :=
  fn_ev (k := 2 * d + 1) (N := ["ways", "one", "other", "days"]) G.F__law_web_length ⟨rfl, rfl, rfl, by decide +kernel, rfl, by decide +kernel, by decide +kernel⟩ hT rfl rfl fun cdv AA outer s H E g => (ss_cons (s_ret (e_bi (cr_sum g.calm) kSum G.n_sum (by decide +kernel) (a_cons (e_comp false g.calm g.nd  (i_seq (e_var 0)) (own := [("one", 1), ("other", 2), ("days", 3)]) (blkOk_by (by kernel_rfl)) (fun _ _ _ _ _ => (pg_tup g.blk.calm (pgs_cons (pg_loc 1 g.blk.nd) (pgs_cons (pg_loc 2 g.blk.nd) (pgs_cons (pg_loc 3 g.blk.nd) pgs_nil))))) (g_tup [1, 2, 3]) (by show ∀ i ∈ [1, 2, 3], i ∈ [1, 2, 3]; decide) (fun _ _ _ _ _ => c_none) (fun _ _ _ _ _ => (e_var 3))) a_nil))) ss_nil)
def t__law_web_longest : Fn := ⟨1, 4, false, [(.ret (.bi .maxL [(.bin .add (.lst false [(.lit (.int 0))]) (.comp false [1, 2, 3] (.tup [1, 2, 3]) (.seq (.var 0)) none (.var 3)))]))]⟩
theorem p__law_web_longest (G : Glob K mg) (hT : T "_law_web_longest" = some t__law_web_longest) {d : Nat} (A : Ok P w base T wn G d) : FnOkG P w K mg base (2 * (d + 1)) G.f__law_web_longest G.d__law_web_longest ["ways"] (spEv mg 1 (callF T wn (d + 1)) "_law_web_longest") :=
  fn_ev (k := 2 * d + 1) (N := ["ways", "one", "other", "days"]) G.F__law_web_longest ⟨rfl, rfl, rfl, by decide +kernel, rfl, by decide +kernel, by decide +kernel⟩ hT rfl rfl fun cdv AA outer s H E g => (ss_cons (s_ret (e_bi (cr_max g.calm) kMaxL G.n_max (by decide +kernel) (a_cons (e_add (e_lst false (a_cons e_int a_nil)) (e_comp false g.calm g.nd  (i_seq (e_var 0)) (own := [("one", 1), ("other", 2), ("days", 3)]) (blkOk_by (by kernel_rfl)) (fun _ _ _ _ _ => (pg_tup g.blk.calm (pgs_cons (pg_loc 1 g.blk.nd) (pgs_cons (pg_loc 2 g.blk.nd) (pgs_cons (pg_loc 3 g.blk.nd) pgs_nil))))) (g_tup [1, 2, 3]) (by show ∀ i ∈ [1, 2, 3], i ∈ [1, 2, 3]; decide) (fun _ _ _ _ _ => c_none) (fun _ _ _ _ _ => (e_var 3)))) a_nil))) ss_nil)
def t__law_term_loans : Fn := ⟨2, 5, false, [(.par [3, 4] [(.bin .add (.lit (.int 1)) (.call "_law_draw" [(.var 0), (.lit (.int 3))])), (.bin .add (.lit (.int 1)) (.call "_law_draw" [(.var 0), (.call "_law_pick" [(.var 0), (.lst false [(.lit (.int 2)), (.lit (.int 3)), (.lit (.int 8))])])]))]), (.ite (.cmp .eq (.call "_law_draw" [(.var 0), (.lit (.int 6))]) (.lit (.int 0))) [(.par [3, 4] [(.call "_law_pick" [(.var 0), (.lst false [(.lit (.int 20)), (.bin .add (.lit (.int 1)) (.call "_law_draw" [(.var 0), (.lit (.int 20))]))])]), (.call "_law_pick" [(.var 0), (.lst false [(.lit (.int 200)), (.bin .add (.lit (.int 1)) (.call "_law_draw" [(.var 0), (.lit (.int 200))]))])])])] []), (.set 2 (.call "_law_web_longest" [(.call "_law_web_least" [(.var 1)])])), (.ret (.tup [(.lit (.str "loans")), (.var 3), (.var 4), (.call "_law_pick" [(.var 0), (.lst false [(.lit (.int 0)), (.var 4), (.bi .min2 [(.var 4), (.var 2)]), (.call "_law_draw" [(.var 0), (.bin .add (.var 4) (.lit (.int 1)))])])])]))]⟩
theorem p__law_term_loans (G : Glob K mg) (hT : T "_law_term_loans" = some t__law_term_loans) {d : Nat} (A : Ok P w base T wn G d) : FnOkG P w K mg base (2 * (d + 1)) G.f__law_term_loans G.d__law_term_loans ["pool", "web"] (spEv mg 2 (callF T wn (d + 1)) "_law_term_loans") :=
  fn_ev (k := 2 * d + 1) (N := ["pool", "web", "longest", "k", "days"]) G.F__law_term_loans ⟨rfl, rfl, rfl, by decide +kernel, rfl, by decide +kernel, by decide +kernel⟩ hT rfl rfl fun cdv AA outer s H E g => (ss_cons (s_par2 (i := 3) (j := 4) g.calm g.nd (a_cons (e_add e_int (e_call g A.o__law_draw.up G.m__law_draw G.k__law_draw G.b__law_draw (a_cons (e_var 0) (a_cons e_int a_nil)))) (a_cons (e_add e_int (e_call g A.o__law_draw.up G.m__law_draw G.k__law_draw G.b__law_draw (a_cons (e_var 0) (a_cons (e_call g A.o__law_pick.up G.m__law_pick G.k__law_pick G.b__law_pick (a_cons (e_var 0) (a_cons (e_lst false (a_cons e_int (a_cons e_int (a_cons e_int a_nil)))) a_nil))) a_nil)))) a_nil))) (ss_cons (s_ite (t_cmp (op_eqD g.un) kEq (nobehind _ (by decide) (by decide)) (e_call g A.o__law_draw.up G.m__law_draw G.k__law_draw G.b__law_draw (a_cons (e_var 0) (a_cons e_int a_nil))) e_int) (ss_cons (s_par2 (i := 3) (j := 4) g.calm g.nd (a_cons (e_call g A.o__law_pick.up G.m__law_pick G.k__law_pick G.b__law_pick (a_cons (e_var 0) (a_cons (e_lst false (a_cons e_int (a_cons (e_add e_int (e_call g A.o__law_draw.up G.m__law_draw G.k__law_draw G.b__law_draw (a_cons (e_var 0) (a_cons e_int a_nil)))) a_nil))) a_nil))) (a_cons (e_call g A.o__law_pick.up G.m__law_pick G.k__law_pick G.b__law_pick (a_cons (e_var 0) (a_cons (e_lst false (a_cons e_int (a_cons (e_add e_int (e_call g A.o__law_draw.up G.m__law_draw G.k__law_draw G.b__law_draw (a_cons (e_var 0) (a_cons e_int a_nil)))) a_nil))) a_nil))) a_nil))) ss_nil) ss_nil) (ss_cons (s_set (i := 2) g.nd (e_call g A.o__law_web_longest.up G.m__law_web_longest G.k__law_web_longest G.b__law_web_longest (a_cons (e_call g A.o__law_web_least.up G.m__law_web_least G.k__law_web_least G.b__law_web_least (a_cons (e_var 1) a_nil)) a_nil))) (ss_cons (s_ret (e_tup (a_cons e_str (a_cons (e_var 3) (a_cons (e_var 4) (a_cons (e_call g A.o__law_pick.up G.m__law_pick G.k__law_pick G.b__law_pick (a_cons (e_var 0) (a_cons (e_lst false (a_cons e_int (a_cons (e_var 4) (a_cons (e_bi (call_min2 g.calm) kMin2 G.n_min (by decide +kernel) (a_cons (e_var 4) (a_cons (e_var 2) a_nil))) (a_cons (e_call g A.o__law_draw.up G.m__law_draw G.k__law_draw G.b__law_draw (a_cons (e_var 0) (a_cons (e_add (e_var 4) e_int) a_nil))) a_nil))))) a_nil))) a_nil)))))) ss_nil))))
def t__law_term_table : Fn := ⟨3, 12, false, [(.par [5, 6] [(.bin .add (.lit (.int 1)) (.call "_law_draw" [(.var 0), (.lit (.int 997))])), (.bin .add (.lit (.int 1)) (.call "_law_draw" [(.var 0), (.lit (.int 991))]))]), (.par [7, 8, 9] [(.call "_law_draw" [(.var 0), (.var 1)]), (.call "_law_draw" [(.var 0), (.var 1)]), (.bin .add (.lit (.int 1)) (.call "_law_draw" [(.var 0), (.var 2)]))]), (.set 3 (.lst true [])), (.forS (.name 4) (.range1 (.var 1)) [(.set 10 (.comp true [11] (.name 11) (.range1 (.var 1)) none (.bin .add (.lit (.int 1)) (.ite (.cmp .lt (.var 1) (.lit (.int 8))) (.call "_law_draw" [(.var 0), (.var 2)]) (.bin .mod (.bi .int [(.bin .add (.bin .add (.bin .mul (.var 4) (.var 5)) (.bin .mul (.var 11) (.var 6))) (.bin .mul (.var 4) (.var 11)))]) (.var 2)))))), (.setIx (.var 10) (.var 8) (.ite (.cmp .eq (.var 4) (.var 7)) (.var 9) (.ix (.var 10) (.var 8)))), (.setIx (.var 10) (.var 4) (.lit (.int 0))), (.expr (.meth .append (.var 3) [(.bi .tupOf [(.var 10)])]))]), (.ret (.bi .tupOf [(.var 3)]))]⟩
theorem p__law_term_table (G : Glob K mg) (hT : T "_law_term_table" = some t__law_term_table) {d : Nat} (A : Ok P w base T wn G d) : FnOkG P w K mg base (2 * (d + 1)) G.f__law_term_table G.d__law_term_table ["pool", "n", "most"] (spEv mg 3 (callF T wn (d + 1)) "_law_term_table") :=
  fn_ev (k := 2 * d + 1) (N := ["pool", "n", "most", "rows", "a", "far", "near", "one", "other", "days", "row", "b"]) G.F__law_term_table ⟨rfl, rfl, rfl, by decide +kernel, rfl, by decide +kernel, by decide +kernel⟩ hT rfl rfl fun cdv AA outer s H E g => (ss_cons (s_parT (is := [5, 6]) g.calm (a_cons (e_add e_int (e_call g A.o__law_draw.up G.m__law_draw G.k__law_draw G.b__law_draw (a_cons (e_var 0) (a_cons e_int a_nil)))) (a_cons (e_add e_int (e_call g A.o__law_draw.up G.m__law_draw G.k__law_draw G.b__law_draw (a_cons (e_var 0) (a_cons e_int a_nil)))) a_nil)) (pgs_cons (pg_loc 5 g.nd) (pgs_cons (pg_loc 6 g.nd) pgs_nil))) (ss_cons (s_par3 (i := 7) (j := 8) (k := 9) g.calm g.nd (a_cons (e_call g A.o__law_draw.up G.m__law_draw G.k__law_draw G.b__law_draw (a_cons (e_var 0) (a_cons (e_var 1) a_nil))) (a_cons (e_call g A.o__law_draw.up G.m__law_draw G.k__law_draw G.b__law_draw (a_cons (e_var 0) (a_cons (e_var 1) a_nil))) (a_cons (e_add e_int (e_call g A.o__law_draw.up G.m__law_draw G.k__law_draw G.b__law_draw (a_cons (e_var 0) (a_cons (e_var 2) a_nil)))) a_nil)))) (ss_cons (s_set (i := 3) g.nd (e_lst true a_nil)) (ss_cons (s_for g (i_range1 G.n_range (e_var 1)) (pg_loc 4 g.nd) (g_name 4) (ss_cons (s_setLc true g.calm g.nd  (sw_true rfl rfl rfl (by decide +kernel)) (i_range1 G.n_range (e_var 1)) (own := [("b", 11)]) (blkOk_by (by kernel_rfl)) (fun _ _ _ _ _ => (pg_loc 11 g.blk.nd)) (g_name 11) (by show 11 ∈ [11]; decide) (fun _ _ _ _ _ => c_none) (fun _ _ _ _ _ => (e_add e_int (e_ite (t_cmp op_lt kLt (nobehind _ (by decide) (by decide)) (e_var 1) e_int) (e_call g.blk A.o__law_draw.up G.m__law_draw G.k__law_draw G.b__law_draw (a_cons (e_var 0) (a_cons (e_var 2) a_nil))) (e_mod (e_biT call_int1 kInt G.n_int (by decide +kernel) (a_cons (e_add (e_add (e_mul (e_var 4) (e_var 5)) (e_mul (e_var 11) (e_var 6))) (e_mul (e_var 4) (e_var 11))) a_nil)) (e_var 2)))))) (ss_cons (s_setIx g.u1 (e_ite (t_cmp (op_eqD g.un) kEq (nobehind _ (by decide) (by decide)) (e_var 4) (e_var 7)) (e_var 9) (e_ix (e_var 10) (e_var 8))) (e_var 10) (e_var 8)) (ss_cons (s_setIx g.u1 e_int (e_var 10) (e_var 4)) (ss_cons (s_expr (e_append (e_var 3) (a_cons (e_biT call_tuple_of kTupOf G.n_tuple (by decide +kernel) (a_cons (e_var 10) a_nil)) a_nil))) ss_nil))))) (ss_cons (s_ret (e_biT call_tuple_of kTupOf G.n_tuple (by decide +kernel) (a_cons (e_var 3) a_nil))) ss_nil)))))
def t__law_term_trips : Fn := ⟨2, 2, false, [(.ite (.cmp .eq (.call "_law_draw" [(.var 0), (.lit (.int 6))]) (.lit (.int 0))) [(.ret (.tup [(.lit (.str "trips")), (.call "_law_pick" [(.var 0), (.lst false [(.lit (.int 20)), (.bin .add (.lit (.int 1)) (.call "_law_draw" [(.var 0), (.lit (.int 20))]))])]), (.call "_law_term_table" [(.var 0), (.ix (.var 1) (.lit (.int 0))), (.lit (.int 200))])]))] []), (.ret (.tup [(.lit (.str "trips")), (.bin .add (.lit (.int 1)) (.call "_law_draw" [(.var 0), (.lit (.int 3))])), (.call "_law_term_table" [(.var 0), (.ix (.var 1) (.lit (.int 0))), (.call "_law_pick" [(.var 0), (.lst false [(.lit (.int 1)), (.lit (.int 3)), (.lit (.int 8))])])])]))]⟩
theorem p__law_term_trips (G : Glob K mg) (hT : T "_law_term_trips" = some t__law_term_trips) {d : Nat} (A : Ok P w base T wn G d) : FnOkG P w K mg base (2 * (d + 1)) G.f__law_term_trips G.d__law_term_trips ["pool", "web"] (spEv mg 2 (callF T wn (d + 1)) "_law_term_trips") :=
  fn_ev (k := 2 * d + 1) (N := ["pool", "web"]) G.F__law_term_trips ⟨rfl, rfl, rfl, by decide +kernel, rfl, by decide +kernel, by decide +kernel⟩ hT rfl rfl fun cdv AA outer s H E g => (ss_cons (s_ite (t_cmp (op_eqD g.un) kEq (nobehind _ (by decide) (by decide)) (e_call g A.o__law_draw.up G.m__law_draw G.k__law_draw G.b__law_draw (a_cons (e_var 0) (a_cons e_int a_nil))) e_int) (ss_cons (s_ret (e_tup (a_cons e_str (a_cons (e_call g A.o__law_pick.up G.m__law_pick G.k__law_pick G.b__law_pick (a_cons (e_var 0) (a_cons (e_lst false (a_cons e_int (a_cons (e_add e_int (e_call g A.o__law_draw.up G.m__law_draw G.k__law_draw G.b__law_draw (a_cons (e_var 0) (a_cons e_int a_nil)))) a_nil))) a_nil))) (a_cons (e_call g A.o__law_term_table.up G.m__law_term_table G.k__law_term_table G.b__law_term_table (a_cons (e_var 0) (a_cons (e_ix (e_var 1) e_int) (a_cons e_int a_nil)))) a_nil))))) ss_nil) ss_nil) (ss_cons (s_ret (e_tup (a_cons e_str (a_cons (e_add e_int (e_call g A.o__law_draw.up G.m__law_draw G.k__law_draw G.b__law_draw (a_cons (e_var 0) (a_cons e_int a_nil)))) (a_cons (e_call g A.o__law_term_table.up G.m__law_term_table G.k__law_term_table G.b__law_term_table (a_cons (e_var 0) (a_cons (e_ix (e_var 1) e_int) (a_cons (e_call g A.o__law_pick.up G.m__law_pick G.k__law_pick G.b__law_pick (a_cons (e_var 0) (a_cons (e_lst false (a_cons e_int (a_cons e_int (a_cons e_int a_nil)))) a_nil))) a_nil)))) a_nil))))) ss_nil))
def t__law_notice_some : Fn := ⟨2, 4, false, [(.ite (.cmp .le (.var 0) (.lit (.int 12))) [(.ret (.bi (.rangeList false) [(.bin .add (.var 0) (.lit (.int 1)))]))] []), (.set 2 (.lst false [(.lit (.int 0)), (.lit (.int 1)), (.bin .sub (.var 1) (.lit (.int 2))), (.bin .sub (.var 1) (.lit (.int 1))), (.var 1), (.bin .add (.var 1) (.lit (.int 1))), (.bin .fdiv (.var 0) (.lit (.int 2))), (.bin .sub (.var 0) (.lit (.int 1))), (.var 0)])), (.ret (.bi (.sortSet false) [(.comp false [3] (.name 3) (.seq (.var 2)) (some (.chain2 (.lit (.int 0)) .le (.var 3) .le (.var 0))) (.var 3))]))]⟩
theorem p__law_notice_some (G : Glob K mg) (hT : T "_law_notice_some" = some t__law_notice_some) {d : Nat} (A : Ok P w base T wn G d) : FnOkG P w K mg base (2 * (d + 1)) G.f__law_notice_some G.d__law_notice_some ["days", "longest"] (spEv mg 2 (callF T wn (d + 1)) "_law_notice_some") :=
  fn_ev (k := 2 * d + 1) (N := ["days", "longest", "near", "j"]) G.F__law_notice_some ⟨rfl, rfl, rfl, by decide +kernel, rfl, by decide +kernel, by decide +kernel⟩ hT rfl rfl fun cdv AA outer s H E g => (ss_cons (s_ite (t_cmp (op_leA g) kLe (nobehind _ (by decide) (by decide)) (e_var 0) e_int) (ss_cons (s_ret (e_rangeList false g.calm G.n_list G.n_range (e_add (e_var 0) e_int))) ss_nil) ss_nil) (ss_cons (s_set (i := 2) g.nd (e_lst false (a_cons e_int (a_cons e_int (a_cons (e_sub (e_var 1) e_int) (a_cons (e_sub (e_var 1) e_int) (a_cons (e_var 1) (a_cons (e_add (e_var 1) e_int) (a_cons (e_fdiv (e_var 0) e_int) (a_cons (e_sub (e_var 0) e_int) (a_cons (e_var 0) a_nil))))))))))) (ss_cons (s_ret (e_sortSet false g.calm G.n_sorted G.n_set (e_comp false g.calm g.nd  (i_seq (e_var 2)) (own := [("j", 3)]) (blkOk_by (by kernel_rfl)) (fun _ _ _ _ _ => (pg_loc 3 g.blk.nd)) (g_name 3) (by show 3 ∈ [3]; decide) (fun _ _ _ _ _ => (c_one (t_chain2 (op_leA g.blk) (op_leA g.blk) kLe kLe e_int (e_var 3) (e_var 0)))) (fun _ _ _ _ _ => (e_var 3))))) ss_nil)))
def t_law : Fn := ⟨1, 14, false, [(.set 1 (.call "_law_pool" [(.var 0)])), (.set 2 (.call "_law_web_any" [(.var 1), (.lit (.int 7)), (.lit (.int 6))])), (.par [4, 5] [(.call "_law_term_loans" [(.var 1), (.var 2)]), (.call "_law_web_least" [(.var 2)])]), (.unpack [6, 7, 8] (.sl (.var 4) (some (.lit (.int 1))) none)), (.par [9, 10, 11] [(.call "_law_web_length" [(.var 5)]), (.call "_law_web_longest" [(.var 5)]), (.lst true [])]), (.forS (.name 3) (.seq (.call "_law_notice_some" [(.var 7), (.var 10)])) [(.set 12 (.tup [(.lit (.str "loans")), (.var 6), (.var 7), (.var 3)])), (.expr (.meth .append (.var 11) [(.call "needed" [(.var 2), (.var 12)])])), (.set 13 (.tup [(.bin .mul (.var 6) (.bin .add (.bin .add (.var 9) (.var 7)) (.bi .max2 [(.lit (.int 0)), (.bin .sub (.var 10) (.var 3))]))), (.ite (.and (.cmp .lt (.var 3) (.var 10)) (.cmp .lt (.var 3) (.var 7))) (.var 6) (.lit (.int 0))), (.var 6)])), (.ite (.cmp .ne (.bi .repr [(.tup [(.ix (.var 11) (.neg (.lit (.int 1)))), (.call "notice_gain" [(.var 2), (.var 12)]), (.call "loan_gain" [(.var 2), (.var 12)])])]) (.bi .repr [(.var 13)])) [(.ret (.lit (.bool false)))] [])]), (.ite (.and (.cmp .gt (.ix (.var 2) (.lit (.int 0))) (.lit (.int 1))) (.cmp .ne (.bi .repr [(.call "notice_gain" [(.var 2), (.call "_law_term_trips" [(.var 1), (.var 2)])])]) (.lit (.str "0")))) [(.ret (.lit (.bool false)))] []), (.ret (.cmp .eq (.bi .repr [(.bin .sub (.ix (.var 11) (.lit (.int 0))) (.ix (.var 11) (.neg (.lit (.int 1)))))]) (.bi .repr [(.bin .mul (.var 6) (.bi .min2 [(.var 10), (.var 7)]))])))]⟩
theorem p_law (G : Glob K mg) (hT : T "law" = some t_law) {d : Nat} (A : Ok P w base T wn G d) : FnOkG P w K mg base (2 * (d + 1)) G.f_law G.d_law ["script"] (spEv mg 1 (callF T wn (d + 1)) "law") :=
  fn_ev (k := 2 * d + 1) (N := ["script", "pool", "web", "j", "loans", "tree", "k", "days", "drawn", "length", "longest", "found", "terms", "due"]) G.F_law ⟨rfl, rfl, rfl, by decide +kernel, rfl, by decide +kernel, by decide +kernel⟩ hT rfl rfl fun cdv AA outer s H E g => (ss_cons (s_set (i := 1) g.nd (e_call g A.o__law_pool.up G.m__law_pool G.k__law_pool G.b__law_pool (a_cons (e_var 0) a_nil))) (ss_cons (s_set (i := 2) g.nd (e_call g A.o__law_web_any.up G.m__law_web_any G.k__law_web_any G.b__law_web_any (a_cons (e_var 1) (a_cons e_int (a_cons e_int a_nil))))) (ss_cons (s_par2 (i := 4) (j := 5) g.calm g.nd (a_cons (e_call g A.o__law_term_loans.up G.m__law_term_loans G.k__law_term_loans G.b__law_term_loans (a_cons (e_var 1) (a_cons (e_var 2) a_nil))) (a_cons (e_call g A.o__law_web_least.up G.m__law_web_least G.k__law_web_least G.b__law_web_least (a_cons (e_var 2) a_nil)) a_nil))) (ss_cons (s_unpack (is := [6, 7, 8]) g.calm (e_sl (e_var 4) (o_some e_int) o_none) (pgs_cons (pg_loc 6 g.nd) (pgs_cons (pg_loc 7 g.nd) (pgs_cons (pg_loc 8 g.nd) pgs_nil)))) (ss_cons (s_par3 (i := 9) (j := 10) (k := 11) g.calm g.nd (a_cons (e_call g A.o__law_web_length.up G.m__law_web_length G.k__law_web_length G.b__law_web_length (a_cons (e_var 5) a_nil)) (a_cons (e_call g A.o__law_web_longest.up G.m__law_web_longest G.k__law_web_longest G.b__law_web_longest (a_cons (e_var 5) a_nil)) (a_cons (e_lst true a_nil) a_nil)))) (ss_cons (s_for g (i_seq (e_call g A.o__law_notice_some.up G.m__law_notice_some G.k__law_notice_some G.b__law_notice_some (a_cons (e_var 7) (a_cons (e_var 10) a_nil)))) (pg_loc 3 g.nd) (g_name 3) (ss_cons (s_set (i := 12) g.nd (e_tup (a_cons e_str (a_cons (e_var 6) (a_cons (e_var 7) (a_cons (e_var 3) a_nil)))))) (ss_cons (s_expr (e_append (e_var 11) (a_cons (e_call g A.o_needed.up G.m_needed G.k_needed G.b_needed (a_cons (e_var 2) (a_cons (e_var 12) a_nil))) a_nil))) (ss_cons (s_set (i := 13) g.nd (e_tup (a_cons (e_mul (e_var 6) (e_add (e_add (e_var 9) (e_var 7)) (e_bi (call_max2 g.calm) kMax2 G.n_max (by decide +kernel) (a_cons e_int (a_cons (e_sub (e_var 10) (e_var 3)) a_nil))))) (a_cons (e_ite (w_and (t_cmp op_lt kLt (nobehind _ (by decide) (by decide)) (e_var 3) (e_var 10)) (w_one_and (t_cmp op_lt kLt (nobehind _ (by decide) (by decide)) (e_var 3) (e_var 7)))).pt (e_var 6) e_int) (a_cons (e_var 6) a_nil))))) (ss_cons (s_ite (t_cmp (op_neD g.un) kNe (nobehind _ (by decide) (by decide)) (e_bi (call_reprD g.gd g.u66) kRepr G.n_repr (by decide +kernel) (a_cons (e_tup (a_cons (e_ix (e_var 11) (e_neg e_int)) (a_cons (e_call g A.o_notice_gain.up G.m_notice_gain G.k_notice_gain G.b_notice_gain (a_cons (e_var 2) (a_cons (e_var 12) a_nil))) (a_cons (e_call g A.o_loan_gain.up G.m_loan_gain G.k_loan_gain G.b_loan_gain (a_cons (e_var 2) (a_cons (e_var 12) a_nil))) a_nil)))) a_nil)) (e_bi (call_reprD g.gd g.u66) kRepr G.n_repr (by decide +kernel) (a_cons (e_var 13) a_nil))) (ss_cons (s_ret e_bool) ss_nil) ss_nil) ss_nil))))) (ss_cons (s_ite (w_and (t_cmp op_gt kGt (nobehind _ (by decide) (by decide)) (e_ix (e_var 2) e_int) e_int) (w_one_and (t_cmp (op_neD g.un) kNe (nobehind _ (by decide) (by decide)) (e_bi (call_reprD g.gd g.u66) kRepr G.n_repr (by decide +kernel) (a_cons (e_call g A.o_notice_gain.up G.m_notice_gain G.k_notice_gain G.b_notice_gain (a_cons (e_var 2) (a_cons (e_call g A.o__law_term_trips.up G.m__law_term_trips G.k__law_term_trips G.b__law_term_trips (a_cons (e_var 1) (a_cons (e_var 2) a_nil))) a_nil))) a_nil)) e_str))).pt (ss_cons (s_ret e_bool) ss_nil) ss_nil) (ss_cons (s_ret (e_cmp (op_eqD g.un) kEq (nobehind _ (by decide) (by decide)) (e_bi (call_reprD g.gd g.u66) kRepr G.n_repr (by decide +kernel) (a_cons (e_sub (e_ix (e_var 11) e_int) (e_ix (e_var 11) (e_neg e_int))) a_nil)) (e_bi (call_reprD g.gd g.u66) kRepr G.n_repr (by decide +kernel) (a_cons (e_mul (e_var 6) (e_bi (call_min2 g.calm) kMin2 G.n_min (by decide +kernel) (a_cons (e_var 10) (a_cons (e_var 7) a_nil)))) a_nil)))) ss_nil))))))))
theorem all (G : Glob K mg) (h_is_number : T "is_number" = some t_is_number) (h_is_within : T "is_within" = some t_is_within) (h_is_numbers : T "is_numbers" = some t_is_numbers) (h_fresh : T "fresh" = some t_fresh) (h_joined : T "joined" = some t_joined) (h_labels_of : T "labels_of" = some t_labels_of) (h_check_together : T "check_together" = some t_check_together) (h_made_web : T "made_web" = some t_made_web) (h__check_ways : T "_check_ways" = some t__check_ways) (h_made_terms : T "made_terms" = some t_made_terms) (h_checked_terms : T "checked_terms" = some t_checked_terms) (h__begins : T "_begins" = some t__begins) (h__check_loans : T "_check_loans" = some t__check_loans) (h_check_loans_terms : T "check_loans_terms" = some t_check_loans_terms) (h__check_trips : T "_check_trips" = some t__check_trips) (h__is_table : T "_is_table" = some t__is_table) (h__is_row : T "_is_row" = some t__is_row) (h_are_loans : T "are_loans" = some t_are_loans) (h_three_numbers : T "three_numbers" = some t_three_numbers) (h_days_in_all : T "days_in_all" = some t_days_in_all) (h_days_of_longest : T "days_of_longest" = some t_days_of_longest) (h_by_days : T "by_days" = some t_by_days) (h_least_legs : T "least_legs" = some t_least_legs) (h_summands_by : T "summands_by" = some t_summands_by) (h_reserve_by : T "reserve_by" = some t_reserve_by) (h_crates_by : T "crates_by" = some t_crates_by) (h_needed : T "needed" = some t_needed) (h_summands : T "summands" = some t_summands) (h_notice_gain : T "notice_gain" = some t_notice_gain) (h_check_loans_worths : T "check_loans_worths" = some t_check_loans_worths) (h_loan_gain : T "loan_gain" = some t_loan_gain) (h__law_pool : T "_law_pool" = some t__law_pool) (h__law_draw : T "_law_draw" = some t__law_draw) (h__law_pick : T "_law_pick" = some t__law_pick) (h__law_turned : T "_law_turned" = some t__law_turned) (h__law_web_way : T "_law_web_way" = some t__law_web_way) (h__law_web_days : T "_law_web_days" = some t__law_web_days) (h__law_web_drawn : T "_law_web_drawn" = some t__law_web_drawn) (h__law_web_rims : T "_law_web_rims" = some t__law_web_rims) (h__law_web_any : T "_law_web_any" = some t__law_web_any) (h__law_web_joined : T "_law_web_joined" = some t__law_web_joined) (h__law_web_least : T "_law_web_least" = some t__law_web_least) (h__law_web_length : T "_law_web_length" = some t__law_web_length) (h__law_web_longest : T "_law_web_longest" = some t__law_web_longest) (h__law_term_loans : T "_law_term_loans" = some t__law_term_loans) (h__law_term_table : T "_law_term_table" = some t__law_term_table) (h__law_term_trips : T "_law_term_trips" = some t__law_term_trips) (h__law_notice_some : T "_law_notice_some" = some t__law_notice_some) (h_law : T "law" = some t_law) : ∀ d, Ok P w base T wn G d
  | 0 => ⟨ok_zero rfl, ok_zero rfl, ok_zero rfl, ok_zero rfl, ok_zero rfl, ok_zero rfl, ok_zero rfl, ok_zero rfl, ok_zero rfl, ok_zero rfl, ok_zero rfl, ok_zero rfl, ok_zero rfl, ok_zero rfl, ok_zero rfl, ok_zero rfl, ok_zero rfl, ok_zero rfl, ok_zero rfl, ok_zero rfl, ok_zero rfl, ok_zero rfl, ok_zero rfl, ok_zero rfl, ok_zero rfl, ok_zero rfl, ok_zero rfl, ok_zero rfl, ok_zero rfl, ok_zero rfl, ok_zero rfl, ok_zero rfl, ok_zero rfl, ok_zero rfl, ok_zero rfl, ok_zero rfl, ok_zero rfl, ok_zero rfl, ok_zero rfl, ok_zero rfl, ok_zero rfl, ok_zero rfl, ok_zero rfl, ok_zero rfl, ok_zero rfl, ok_zero rfl, ok_zero rfl, ok_zero rfl, ok_zero rfl⟩
  | d + 1 => let A := all G h_is_number h_is_within h_is_numbers h_fresh h_joined h_labels_of h_check_together h_made_web h__check_ways h_made_terms h_checked_terms h__begins h__check_loans h_check_loans_terms h__check_trips h__is_table h__is_row h_are_loans h_three_numbers h_days_in_all h_days_of_longest h_by_days h_least_legs h_summands_by h_reserve_by h_crates_by h_needed h_summands h_notice_gain h_check_loans_worths h_loan_gain h__law_pool h__law_draw h__law_pick h__law_turned h__law_web_way h__law_web_days h__law_web_drawn h__law_web_rims h__law_web_any h__law_web_joined h__law_web_least h__law_web_length h__law_web_longest h__law_term_loans h__law_term_table h__law_term_trips h__law_notice_some h_law d; ⟨p__begins G h__begins A, p__check_loans G h__check_loans A, p__check_trips G h__check_trips A, p__check_ways G h__check_ways A, p__is_row G h__is_row A, p__is_table G h__is_table A, p__law_draw G h__law_draw A, p__law_notice_some G h__law_notice_some A, p__law_pick G h__law_pick A, p__law_pool G h__law_pool A, p__law_term_loans G h__law_term_loans A, p__law_term_table G h__law_term_table A, p__law_term_trips G h__law_term_trips A, p__law_turned G h__law_turned A, p__law_web_any G h__law_web_any A, p__law_web_days G h__law_web_days A, p__law_web_drawn G h__law_web_drawn A, p__law_web_joined G h__law_web_joined A, p__law_web_least G h__law_web_least A, p__law_web_length G h__law_web_length A, p__law_web_longest G h__law_web_longest A, p__law_web_rims G h__law_web_rims A, p__law_web_way G h__law_web_way A, p_are_loans G h_are_loans A, p_by_days G h_by_days A, p_check_loans_terms G h_check_loans_terms A, p_check_loans_worths G h_check_loans_worths A, p_check_together G h_check_together A, p_checked_terms G h_checked_terms A, p_crates_by G h_crates_by A, p_days_in_all G h_days_in_all A, p_days_of_longest G h_days_of_longest A, p_fresh G h_fresh A, p_is_number G h_is_number A, p_is_numbers G h_is_numbers A, p_is_within G h_is_within A, p_joined G h_joined A, p_labels_of G h_labels_of A, p_law G h_law A, p_least_legs G h_least_legs A, p_loan_gain G h_loan_gain A, p_made_terms G h_made_terms A, p_made_web G h_made_web A, p_needed G h_needed A, p_notice_gain G h_notice_gain A, p_reserve_by G h_reserve_by A, p_summands G h_summands A, p_summands_by G h_summands_by A, p_three_numbers G h_three_numbers A⟩
end Ev.treeandtrip_k45_notice_day_by_day
end
section
set_option maxRecDepth 100000
set_option maxHeartbeats 0
namespace HeadT
open PySem PySem.Spec PyProof.Rows L2
def top (i : Nat) : Stmt := PySem.Challenge.pw_treeandtrip_k45_notice_day_by_day.main.body.getD i (.Pass ⟨0, 0, 0, 0⟩)
def d0 : He.DefD := ⟨("is_number", none), "is_number", "is_number", defArgs (top 9), defBody (top 9), defScope (top 9), [], []⟩
def d1 : He.DefD := ⟨("is_within", none), "is_within", "is_within", defArgs (top 10), defBody (top 10), defScope (top 10), [], []⟩
def d2 : He.DefD := ⟨("is_numbers", none), "is_numbers", "is_numbers", defArgs (top 11), defBody (top 11), defScope (top 11), [], []⟩
def d3 : He.DefD := ⟨("fresh", none), "fresh", "fresh", defArgs (top 12), defBody (top 12), defScope (top 12), [], []⟩
def d4 : He.DefD := ⟨("joined", none), "joined", "joined", defArgs (top 13), defBody (top 13), defScope (top 13), [], []⟩
def d5 : He.DefD := ⟨("labels_of", none), "labels_of", "labels_of", defArgs (top 14), defBody (top 14), defScope (top 14), [], []⟩
def d6 : He.DefD := ⟨("check_together", none), "check_together", "check_together", defArgs (top 15), defBody (top 15), defScope (top 15), [], []⟩
def d7 : He.DefD := ⟨("made_web", none), "made_web", "made_web", defArgs (top 17), defBody (top 17), defScope (top 17), [], []⟩
def d8 : He.DefD := ⟨("_check_ways", none), "_check_ways", "_check_ways", defArgs (top 18), defBody (top 18), defScope (top 18), [], []⟩
def d9 : He.DefD := ⟨("made_terms", none), "made_terms", "made_terms", defArgs (top 21), defBody (top 21), defScope (top 21), [], []⟩
def d10 : He.DefD := ⟨("checked_terms", none), "checked_terms", "checked_terms", defArgs (top 22), defBody (top 22), defScope (top 22), [], []⟩
def d11 : He.DefD := ⟨("_begins", none), "_begins", "_begins", defArgs (top 23), defBody (top 23), defScope (top 23), [], []⟩
def d12 : He.DefD := ⟨("check_loans_terms", none), "_check_loans", "_check_loans", defArgs (top 24), defBody (top 24), defScope (top 24), [], []⟩
def d13 : He.DefD := ⟨("_check_trips", none), "_check_trips", "_check_trips", defArgs (top 26), defBody (top 26), defScope (top 26), [], []⟩
def d14 : He.DefD := ⟨("_is_table", none), "_is_table", "_is_table", defArgs (top 27), defBody (top 27), defScope (top 27), [], []⟩
def d15 : He.DefD := ⟨("_is_row", none), "_is_row", "_is_row", defArgs (top 28), defBody (top 28), defScope (top 28), [], []⟩
def d16 : He.DefD := ⟨("are_loans", none), "are_loans", "are_loans", defArgs (top 29), defBody (top 29), defScope (top 29), [], []⟩
def d17 : He.DefD := ⟨("three_numbers", none), "three_numbers", "three_numbers", defArgs (top 30), defBody (top 30), defScope (top 30), [], []⟩
def d18 : He.DefD := ⟨("days_in_all", none), "days_in_all", "days_in_all", defArgs (top 32), defBody (top 32), defScope (top 32), [], []⟩
def d19 : He.DefD := ⟨("days_of_longest", none), "days_of_longest", "days_of_longest", defArgs (top 33), defBody (top 33), defScope (top 33), [], []⟩
def d20 : He.DefD := ⟨("by_days", none), "by_days", "by_days", defArgs (top 34), defBody (top 34), defScope (top 34), [], []⟩
def d21 : He.DefD := ⟨("least_legs", none), "least_legs", "least_legs", defArgs (top 35), defBody (top 35), defScope (top 35), [], []⟩
def d22 : He.DefD := ⟨("summands_by", none), "summands_by", "summands_by", defArgs (top 37), defBody (top 37), defScope (top 37), [], []⟩
def d23 : He.DefD := ⟨("reserve_by", none), "reserve_by", "reserve_by", defArgs (top 38), defBody (top 38), defScope (top 38), [], []⟩
def d24 : He.DefD := ⟨("crates_by", none), "crates_by", "crates_by", defArgs (top 39), defBody (top 39), defScope (top 39), [], []⟩
def d25 : He.DefD := ⟨("needed", none), "needed", "needed", defArgs (top 40), defBody (top 40), defScope (top 40), [], []⟩
def d26 : He.DefD := ⟨("summands", none), "summands", "summands", defArgs (top 41), defBody (top 41), defScope (top 41), [], []⟩
def d27 : He.DefD := ⟨("notice_gain", none), "notice_gain", "notice_gain", defArgs (top 43), defBody (top 43), defScope (top 43), [], []⟩
def d28 : He.DefD := ⟨("_check_loans", none), "_check_loans", "_check_loans", defArgs (top 44), defBody (top 44), defScope (top 44), [], []⟩
def d29 : He.DefD := ⟨("check_loans_worths", none), "_check_loans", "_check_loans", defArgs (top 44), defBody (top 44), defScope (top 44), [], []⟩
def d30 : He.DefD := ⟨("loan_gain", none), "loan_gain", "loan_gain", defArgs (top 46), defBody (top 46), defScope (top 46), [], []⟩
def d31 : He.DefD := ⟨("_law_pool", none), "_law_pool", "_law_pool", defArgs (top 48), defBody (top 48), defScope (top 48), [], []⟩
def d32 : He.DefD := ⟨("_law_draw", none), "_law_draw", "_law_draw", defArgs (top 49), defBody (top 49), defScope (top 49), [], []⟩
def d33 : He.DefD := ⟨("_law_pick", none), "_law_pick", "_law_pick", defArgs (top 50), defBody (top 50), defScope (top 50), [], []⟩
def d34 : He.DefD := ⟨("_law_turned", none), "_law_turned", "_law_turned", defArgs (top 51), defBody (top 51), defScope (top 51), [], []⟩
def d35 : He.DefD := ⟨("_law_web_way", none), "_law_web_way", "_law_web_way", defArgs (top 52), defBody (top 52), defScope (top 52), [], []⟩
def d36 : He.DefD := ⟨("_law_web_days", none), "_law_web_days", "_law_web_days", defArgs (top 53), defBody (top 53), defScope (top 53), [], []⟩
def d37 : He.DefD := ⟨("_law_web_drawn", none), "_law_web_drawn", "_law_web_drawn", defArgs (top 54), defBody (top 54), defScope (top 54), [], []⟩
def d38 : He.DefD := ⟨("_law_web_rims", none), "_law_web_rims", "_law_web_rims", defArgs (top 55), defBody (top 55), defScope (top 55), [], []⟩
def d39 : He.DefD := ⟨("_law_web_any", none), "_law_web_any", "_law_web_any", defArgs (top 56), defBody (top 56), defScope (top 56), [], []⟩
def d40 : He.DefD := ⟨("_law_web_joined", none), "_law_web_joined", "_law_web_joined", defArgs (top 57), defBody (top 57), defScope (top 57), [], []⟩
def d41 : He.DefD := ⟨("_law_web_least", none), "_law_web_least", "_law_web_least", defArgs (top 58), defBody (top 58), defScope (top 58), [], []⟩
def d42 : He.DefD := ⟨("_law_web_length", none), "_law_web_length", "_law_web_length", defArgs (top 59), defBody (top 59), defScope (top 59), [], []⟩
def d43 : He.DefD := ⟨("_law_web_longest", none), "_law_web_longest", "_law_web_longest", defArgs (top 60), defBody (top 60), defScope (top 60), [], []⟩
def d44 : He.DefD := ⟨("_law_term_loans", none), "_law_term_loans", "_law_term_loans", defArgs (top 61), defBody (top 61), defScope (top 61), [], []⟩
def d45 : He.DefD := ⟨("_law_term_table", none), "_law_term_table", "_law_term_table", defArgs (top 62), defBody (top 62), defScope (top 62), [], []⟩
def d46 : He.DefD := ⟨("_law_term_trips", none), "_law_term_trips", "_law_term_trips", defArgs (top 63), defBody (top 63), defScope (top 63), [], []⟩
def d47 : He.DefD := ⟨("_law_notice_some", none), "_law_notice_some", "_law_notice_some", defArgs (top 64), defBody (top 64), defScope (top 64), [], []⟩
def d48 : He.DefD := ⟨("law", none), "law", "law", defArgs (top 65), defBody (top 65), defScope (top 65), [], []⟩
def fn : List He.DefD := [d0, d1, d2, d3, d4, d5, d6, d7, d8, d9, d10, d11, d12, d13, d14, d15, d16, d17, d18, d19, d20, d21, d22, d23, d24, d25, d26, d27, d28, d29, d30, d31, d32, d33, d34, d35, d36, d37, d38, d39, d40, d41, d42, d43, d44, d45, d46, d47, d48]
def fa : List He.Fa := [.glo "is_number", .glo "is_within", .glo "is_numbers", .glo "fresh", .glo "joined", .glo "labels_of", .glo "check_together", .glo "made_web", .glo "_check_ways", .glo "made_terms", .glo "checked_terms", .glo "_begins", .glo "check_loans_terms", .glo "_check_trips", .glo "_is_table", .glo "_is_row", .glo "are_loans", .glo "three_numbers", .glo "days_in_all", .glo "days_of_longest", .glo "by_days", .glo "least_legs", .glo "summands_by", .glo "reserve_by", .glo "crates_by", .glo "needed", .glo "summands", .glo "notice_gain", .glo "_check_loans", .glo "check_loans_worths", .glo "loan_gain", .glo "_law_pool", .glo "_law_draw", .glo "_law_pick", .glo "_law_turned", .glo "_law_web_way", .glo "_law_web_days", .glo "_law_web_drawn", .glo "_law_web_rims", .glo "_law_web_any", .glo "_law_web_joined", .glo "_law_web_least", .glo "_law_web_length", .glo "_law_web_longest", .glo "_law_term_loans", .glo "_law_term_table", .glo "_law_term_trips", .glo "_law_notice_some", .glo "law", .free "ValueError", .free "all", .free "bool", .free "enumerate", .free "int", .free "isinstance", .free "len", .free "list", .free "max", .free "min", .free "range", .free "repr", .free "set", .free "sorted", .free "sum", .free "tuple", .int "MOST_PLACES" 40, .int "MOST_DAYS" 200, .int "MOST_ASKS" 20]
abbrev R : PySem.W.OpenRow := PySem.W.OpenLaw.row PySem.Challenge.rw_treeandtrip_k45_notice_day_by_day
abbrev hk : PySem.W.Hook := He.hookD 4 fa fn
def ob (s : PySem.W.SharedT) : He.AlD := He.obsDG 4 fa fn (HandSHeadRun.getT s)
theorem ob_eq (s : PySem.W.SharedT) : ob s = hk.obs s.abs := He.obsDG_eq (HandSHeadRun.getT_eq s)
def loose : List Str := (["BadTerms", "BadWay", "BadWeb", "MOST_ASKS", "MOST_DAYS", "MOST_PLACES", "Parted", "Refused", "_begins", "_check_loans", "_check_trips", "_check_ways", "_is_row", "_is_table", "_law_draw", "_law_notice_some", "_law_pick", "_law_pool", "_law_term_loans", "_law_term_table", "_law_term_trips", "_law_turned", "_law_web_any", "_law_web_days", "_law_web_drawn", "_law_web_joined", "_law_web_least", "_law_web_length", "_law_web_longest", "_law_web_rims"] : List Str) ++ (["_law_web_way", "are_loans", "by_days", "check_loans_terms", "check_loans_worths", "check_together", "checked_terms", "crates_by", "days_in_all", "days_of_longest", "fresh", "is_number", "is_numbers", "is_within", "joined", "labels_of", "least_legs", "loan_gain", "made_terms", "made_web", "needed", "notice_gain", "reserve_by", "summands", "summands_by", "three_numbers"] : List Str)
theorem run (w : World) : HandSHeadRun.RunEq R (PySem.W.view R.prog [65]) hk ob 3000 loose w := by
  intro os
  kernel_rfl
end HeadT
end
section
set_option maxRecDepth 100000
set_option maxHeartbeats 0
namespace HeadT
open PySem PySem.Spec PyProof.Rows L2 Ev Ev.treeandtrip_k45_notice_day_by_day
def Tb (k : String) : Option Fn := [("is_number", t_is_number), ("is_within", t_is_within), ("is_numbers", t_is_numbers), ("fresh", t_fresh), ("joined", t_joined), ("labels_of", t_labels_of), ("check_together", t_check_together), ("made_web", t_made_web), ("_check_ways", t__check_ways), ("made_terms", t_made_terms), ("checked_terms", t_checked_terms), ("_begins", t__begins), ("_check_loans", t__check_loans), ("check_loans_terms", t_check_loans_terms), ("_check_trips", t__check_trips), ("_is_table", t__is_table), ("_is_row", t__is_row), ("are_loans", t_are_loans), ("three_numbers", t_three_numbers), ("days_in_all", t_days_in_all), ("days_of_longest", t_days_of_longest), ("by_days", t_by_days), ("least_legs", t_least_legs), ("summands_by", t_summands_by), ("reserve_by", t_reserve_by), ("crates_by", t_crates_by), ("needed", t_needed), ("summands", t_summands), ("notice_gain", t_notice_gain), ("check_loans_worths", t_check_loans_worths), ("loan_gain", t_loan_gain), ("_law_pool", t__law_pool), ("_law_draw", t__law_draw), ("_law_pick", t__law_pick), ("_law_turned", t__law_turned), ("_law_web_way", t__law_web_way), ("_law_web_days", t__law_web_days), ("_law_web_drawn", t__law_web_drawn), ("_law_web_rims", t__law_web_rims), ("_law_web_any", t__law_web_any), ("_law_web_joined", t__law_web_joined), ("_law_web_least", t__law_web_least), ("_law_web_length", t__law_web_length), ("_law_web_longest", t__law_web_longest), ("_law_term_loans", t__law_term_loans), ("_law_term_table", t__law_term_table), ("_law_term_trips", t__law_term_trips), ("_law_notice_some", t__law_notice_some), ("law", t_law)].lookup k
theorem h_is_number : Tb "is_number" = some t_is_number := by rfl
theorem h_is_within : Tb "is_within" = some t_is_within := by rfl
theorem h_is_numbers : Tb "is_numbers" = some t_is_numbers := by rfl
theorem h_fresh : Tb "fresh" = some t_fresh := by rfl
theorem h_joined : Tb "joined" = some t_joined := by rfl
theorem h_labels_of : Tb "labels_of" = some t_labels_of := by rfl
theorem h_check_together : Tb "check_together" = some t_check_together := by rfl
theorem h_made_web : Tb "made_web" = some t_made_web := by rfl
theorem h__check_ways : Tb "_check_ways" = some t__check_ways := by rfl
theorem h_made_terms : Tb "made_terms" = some t_made_terms := by rfl
theorem h_checked_terms : Tb "checked_terms" = some t_checked_terms := by rfl
theorem h__begins : Tb "_begins" = some t__begins := by rfl
theorem h__check_loans : Tb "_check_loans" = some t__check_loans := by rfl
theorem h_check_loans_terms : Tb "check_loans_terms" = some t_check_loans_terms := by rfl
theorem h__check_trips : Tb "_check_trips" = some t__check_trips := by rfl
theorem h__is_table : Tb "_is_table" = some t__is_table := by rfl
theorem h__is_row : Tb "_is_row" = some t__is_row := by rfl
theorem h_are_loans : Tb "are_loans" = some t_are_loans := by rfl
theorem h_three_numbers : Tb "three_numbers" = some t_three_numbers := by rfl
theorem h_days_in_all : Tb "days_in_all" = some t_days_in_all := by rfl
theorem h_days_of_longest : Tb "days_of_longest" = some t_days_of_longest := by rfl
theorem h_by_days : Tb "by_days" = some t_by_days := by rfl
theorem h_least_legs : Tb "least_legs" = some t_least_legs := by rfl
theorem h_summands_by : Tb "summands_by" = some t_summands_by := by rfl
theorem h_reserve_by : Tb "reserve_by" = some t_reserve_by := by rfl
theorem h_crates_by : Tb "crates_by" = some t_crates_by := by rfl
theorem h_needed : Tb "needed" = some t_needed := by rfl
theorem h_summands : Tb "summands" = some t_summands := by rfl
theorem h_notice_gain : Tb "notice_gain" = some t_notice_gain := by rfl
theorem h_check_loans_worths : Tb "check_loans_worths" = some t_check_loans_worths := by rfl
theorem h_loan_gain : Tb "loan_gain" = some t_loan_gain := by rfl
theorem h__law_pool : Tb "_law_pool" = some t__law_pool := by rfl
theorem h__law_draw : Tb "_law_draw" = some t__law_draw := by rfl
theorem h__law_pick : Tb "_law_pick" = some t__law_pick := by rfl
theorem h__law_turned : Tb "_law_turned" = some t__law_turned := by rfl
theorem h__law_web_way : Tb "_law_web_way" = some t__law_web_way := by rfl
theorem h__law_web_days : Tb "_law_web_days" = some t__law_web_days := by rfl
theorem h__law_web_drawn : Tb "_law_web_drawn" = some t__law_web_drawn := by rfl
theorem h__law_web_rims : Tb "_law_web_rims" = some t__law_web_rims := by rfl
theorem h__law_web_any : Tb "_law_web_any" = some t__law_web_any := by rfl
theorem h__law_web_joined : Tb "_law_web_joined" = some t__law_web_joined := by rfl
theorem h__law_web_least : Tb "_law_web_least" = some t__law_web_least := by rfl
theorem h__law_web_length : Tb "_law_web_length" = some t__law_web_length := by rfl
theorem h__law_web_longest : Tb "_law_web_longest" = some t__law_web_longest := by rfl
theorem h__law_term_loans : Tb "_law_term_loans" = some t__law_term_loans := by rfl
theorem h__law_term_table : Tb "_law_term_table" = some t__law_term_table := by rfl
theorem h__law_term_trips : Tb "_law_term_trips" = some t__law_term_trips := by rfl
theorem h__law_notice_some : Tb "_law_notice_some" = some t__law_notice_some := by rfl
theorem h_law : Tb "law" = some t_law := by rfl
theorem facts {w : World} {K : PySem.W.Frag} {h : Heap} {mg : Str → Option Value} {f : Addr} (X : K.In h) (G : h.Ns mainGlobals mg) (hfa : mg ("law" : Str) = some (.ref f)) (c : He.SaysD fa fn K) :
    ∃ fd : FuncData, (∀ (s : Shared) (v : Value), BindsTo s fd ⟨[v], []⟩ [("script", v)]) ∧ ∀ a : Addr, (∀ o, K.lookup a = some o → ∃ vs n, o.data = .seq vs n) → ∀ base : Heap, (del K a).In base → base.Ns mainGlobals mg →
      FnOkG (PySem.Challenge.rw_treeandtrip_k45_notice_day_by_day).prog w (del K a) mg base (2 * 20) f fd ["script"] (spEv mg 1 (callF Tb 100000 20) "law") := by
  obtain ⟨fd0, F0⟩ := c.def_ 0 (d := d0) rfl
  obtain ⟨fd1, F1⟩ := c.def_ 1 (d := d1) rfl
  obtain ⟨fd2, F2⟩ := c.def_ 2 (d := d2) rfl
  obtain ⟨fd3, F3⟩ := c.def_ 3 (d := d3) rfl
  obtain ⟨fd4, F4⟩ := c.def_ 4 (d := d4) rfl
  obtain ⟨fd5, F5⟩ := c.def_ 5 (d := d5) rfl
  obtain ⟨fd6, F6⟩ := c.def_ 6 (d := d6) rfl
  obtain ⟨fd7, F7⟩ := c.def_ 7 (d := d7) rfl
  obtain ⟨fd8, F8⟩ := c.def_ 8 (d := d8) rfl
  obtain ⟨fd9, F9⟩ := c.def_ 9 (d := d9) rfl
  obtain ⟨fd10, F10⟩ := c.def_ 10 (d := d10) rfl
  obtain ⟨fd11, F11⟩ := c.def_ 11 (d := d11) rfl
  obtain ⟨fd12, F12⟩ := c.def_ 12 (d := d12) rfl
  obtain ⟨fd13, F13⟩ := c.def_ 13 (d := d13) rfl
  obtain ⟨fd14, F14⟩ := c.def_ 14 (d := d14) rfl
  obtain ⟨fd15, F15⟩ := c.def_ 15 (d := d15) rfl
  obtain ⟨fd16, F16⟩ := c.def_ 16 (d := d16) rfl
  obtain ⟨fd17, F17⟩ := c.def_ 17 (d := d17) rfl
  obtain ⟨fd18, F18⟩ := c.def_ 18 (d := d18) rfl
  obtain ⟨fd19, F19⟩ := c.def_ 19 (d := d19) rfl
  obtain ⟨fd20, F20⟩ := c.def_ 20 (d := d20) rfl
  obtain ⟨fd21, F21⟩ := c.def_ 21 (d := d21) rfl
  obtain ⟨fd22, F22⟩ := c.def_ 22 (d := d22) rfl
  obtain ⟨fd23, F23⟩ := c.def_ 23 (d := d23) rfl
  obtain ⟨fd24, F24⟩ := c.def_ 24 (d := d24) rfl
  obtain ⟨fd25, F25⟩ := c.def_ 25 (d := d25) rfl
  obtain ⟨fd26, F26⟩ := c.def_ 26 (d := d26) rfl
  obtain ⟨fd27, F27⟩ := c.def_ 27 (d := d27) rfl
  obtain ⟨fd28, F28⟩ := c.def_ 28 (d := d28) rfl
  obtain ⟨fd29, F29⟩ := c.def_ 29 (d := d29) rfl
  obtain ⟨fd30, F30⟩ := c.def_ 30 (d := d30) rfl
  obtain ⟨fd31, F31⟩ := c.def_ 31 (d := d31) rfl
  obtain ⟨fd32, F32⟩ := c.def_ 32 (d := d32) rfl
  obtain ⟨fd33, F33⟩ := c.def_ 33 (d := d33) rfl
  obtain ⟨fd34, F34⟩ := c.def_ 34 (d := d34) rfl
  obtain ⟨fd35, F35⟩ := c.def_ 35 (d := d35) rfl
  obtain ⟨fd36, F36⟩ := c.def_ 36 (d := d36) rfl
  obtain ⟨fd37, F37⟩ := c.def_ 37 (d := d37) rfl
  obtain ⟨fd38, F38⟩ := c.def_ 38 (d := d38) rfl
  obtain ⟨fd39, F39⟩ := c.def_ 39 (d := d39) rfl
  obtain ⟨fd40, F40⟩ := c.def_ 40 (d := d40) rfl
  obtain ⟨fd41, F41⟩ := c.def_ 41 (d := d41) rfl
  obtain ⟨fd42, F42⟩ := c.def_ 42 (d := d42) rfl
  obtain ⟨fd43, F43⟩ := c.def_ 43 (d := d43) rfl
  obtain ⟨fd44, F44⟩ := c.def_ 44 (d := d44) rfl
  obtain ⟨fd45, F45⟩ := c.def_ 45 (d := d45) rfl
  obtain ⟨fd46, F46⟩ := c.def_ 46 (d := d46) rfl
  obtain ⟨fd47, F47⟩ := c.def_ 47 (d := d47) rfl
  obtain ⟨fd48, F48⟩ := c.def_ 48 (d := d48) rfl
  have e := hfa.symm.trans (He.glo_ok X G (c.fact 48 (f := .glo "law") rfl))
  cases e
  have b := FunD.bindsA (ps := ["script"]) F48 fun _ _ _ _ _ _ us hl => match us, hl with | [_], _ => rfl
  refine ⟨fd48, fun s v => b s [v] rfl, fun a hl base _ _ => ?_⟩
  have E0 := FunD.del F0 hl
  have E1 := FunD.del F1 hl
  have E2 := FunD.del F2 hl
  have E3 := FunD.del F3 hl
  have E4 := FunD.del F4 hl
  have E5 := FunD.del F5 hl
  have E6 := FunD.del F6 hl
  have E7 := FunD.del F7 hl
  have E8 := FunD.del F8 hl
  have E9 := FunD.del F9 hl
  have E10 := FunD.del F10 hl
  have E11 := FunD.del F11 hl
  have E12 := FunD.del F12 hl
  have E13 := FunD.del F13 hl
  have E14 := FunD.del F14 hl
  have E15 := FunD.del F15 hl
  have E16 := FunD.del F16 hl
  have E17 := FunD.del F17 hl
  have E18 := FunD.del F18 hl
  have E19 := FunD.del F19 hl
  have E20 := FunD.del F20 hl
  have E21 := FunD.del F21 hl
  have E22 := FunD.del F22 hl
  have E23 := FunD.del F23 hl
  have E24 := FunD.del F24 hl
  have E25 := FunD.del F25 hl
  have E26 := FunD.del F26 hl
  have E27 := FunD.del F27 hl
  have E28 := FunD.del F28 hl
  have E29 := FunD.del F29 hl
  have E30 := FunD.del F30 hl
  have E31 := FunD.del F31 hl
  have E32 := FunD.del F32 hl
  have E33 := FunD.del F33 hl
  have E34 := FunD.del F34 hl
  have E35 := FunD.del F35 hl
  have E36 := FunD.del F36 hl
  have E37 := FunD.del F37 hl
  have E38 := FunD.del F38 hl
  have E39 := FunD.del F39 hl
  have E40 := FunD.del F40 hl
  have E41 := FunD.del F41 hl
  have E42 := FunD.del F42 hl
  have E43 := FunD.del F43 hl
  have E44 := FunD.del F44 hl
  have E45 := FunD.del F45 hl
  have E46 := FunD.del F46 hl
  have E47 := FunD.del F47 hl
  have E48 := FunD.del F48 hl
  exact (all (P := (PySem.Challenge.rw_treeandtrip_k45_notice_day_by_day).prog) (w := w) (base := base) (T := Tb) (wn := 100000) (⟨_, fd11, E11, He.glo_ok X G (c.fact 11 (f := .glo "_begins") rfl), E11.kp, FunD.bindsN E11 fun _ _ _ _ _ _ us hl => match us, hl with | [_, _, _], _ => rfl, _, fd28, E28, He.glo_ok X G (c.fact 28 (f := .glo "_check_loans") rfl), E28.kp, FunD.bindsN E28 fun _ _ _ _ _ _ us hl => match us, hl with | [_], _ => rfl, _, fd13, E13, He.glo_ok X G (c.fact 13 (f := .glo "_check_trips") rfl), E13.kp, FunD.bindsN E13 fun _ _ _ _ _ _ us hl => match us, hl with | [_, _], _ => rfl, _, fd8, E8, He.glo_ok X G (c.fact 8 (f := .glo "_check_ways") rfl), E8.kp, FunD.bindsN E8 fun _ _ _ _ _ _ us hl => match us, hl with | [_, _], _ => rfl, _, fd15, E15, He.glo_ok X G (c.fact 15 (f := .glo "_is_row") rfl), E15.kp, FunD.bindsN E15 fun _ _ _ _ _ _ us hl => match us, hl with | [_, _, _], _ => rfl, _, fd14, E14, He.glo_ok X G (c.fact 14 (f := .glo "_is_table") rfl), E14.kp, FunD.bindsN E14 fun _ _ _ _ _ _ us hl => match us, hl with | [_, _], _ => rfl, _, fd32, E32, He.glo_ok X G (c.fact 32 (f := .glo "_law_draw") rfl), E32.kp, FunD.bindsN E32 fun _ _ _ _ _ _ us hl => match us, hl with | [_, _], _ => rfl, _, fd47, E47, He.glo_ok X G (c.fact 47 (f := .glo "_law_notice_some") rfl), E47.kp, FunD.bindsN E47 fun _ _ _ _ _ _ us hl => match us, hl with | [_, _], _ => rfl, _, fd33, E33, He.glo_ok X G (c.fact 33 (f := .glo "_law_pick") rfl), E33.kp, FunD.bindsN E33 fun _ _ _ _ _ _ us hl => match us, hl with | [_, _], _ => rfl, _, fd31, E31, He.glo_ok X G (c.fact 31 (f := .glo "_law_pool") rfl), E31.kp, FunD.bindsN E31 fun _ _ _ _ _ _ us hl => match us, hl with | [_], _ => rfl, _, fd44, E44, He.glo_ok X G (c.fact 44 (f := .glo "_law_term_loans") rfl), E44.kp, FunD.bindsN E44 fun _ _ _ _ _ _ us hl => match us, hl with | [_, _], _ => rfl, _, fd45, E45, He.glo_ok X G (c.fact 45 (f := .glo "_law_term_table") rfl), E45.kp, FunD.bindsN E45 fun _ _ _ _ _ _ us hl => match us, hl with | [_, _, _], _ => rfl, _, fd46, E46, He.glo_ok X G (c.fact 46 (f := .glo "_law_term_trips") rfl), E46.kp, FunD.bindsN E46 fun _ _ _ _ _ _ us hl => match us, hl with | [_, _], _ => rfl, _, fd34, E34, He.glo_ok X G (c.fact 34 (f := .glo "_law_turned") rfl), E34.kp, FunD.bindsN E34 fun _ _ _ _ _ _ us hl => match us, hl with | [_, _], _ => rfl, _, fd39, E39, He.glo_ok X G (c.fact 39 (f := .glo "_law_web_any") rfl), E39.kp, FunD.bindsN E39 fun _ _ _ _ _ _ us hl => match us, hl with | [_, _, _], _ => rfl, _, fd36, E36, He.glo_ok X G (c.fact 36 (f := .glo "_law_web_days") rfl), E36.kp, FunD.bindsN E36 fun _ _ _ _ _ _ us hl => match us, hl with | [_, _], _ => rfl, _, fd37, E37, He.glo_ok X G (c.fact 37 (f := .glo "_law_web_drawn") rfl), E37.kp, FunD.bindsN E37 fun _ _ _ _ _ _ us hl => match us, hl with | [_, _, _, _], _ => rfl, _, fd40, E40, He.glo_ok X G (c.fact 40 (f := .glo "_law_web_joined") rfl), E40.kp, FunD.bindsN E40 fun _ _ _ _ _ _ us hl => match us, hl with | [_, _], _ => rfl, _, fd41, E41, He.glo_ok X G (c.fact 41 (f := .glo "_law_web_least") rfl), E41.kp, FunD.bindsN E41 fun _ _ _ _ _ _ us hl => match us, hl with | [_], _ => rfl, _, fd42, E42, He.glo_ok X G (c.fact 42 (f := .glo "_law_web_length") rfl), E42.kp, FunD.bindsN E42 fun _ _ _ _ _ _ us hl => match us, hl with | [_], _ => rfl, _, fd43, E43, He.glo_ok X G (c.fact 43 (f := .glo "_law_web_longest") rfl), E43.kp, FunD.bindsN E43 fun _ _ _ _ _ _ us hl => match us, hl with | [_], _ => rfl, _, fd38, E38, He.glo_ok X G (c.fact 38 (f := .glo "_law_web_rims") rfl), E38.kp, FunD.bindsN E38 fun _ _ _ _ _ _ us hl => match us, hl with | [_], _ => rfl, _, fd35, E35, He.glo_ok X G (c.fact 35 (f := .glo "_law_web_way") rfl), E35.kp, FunD.bindsN E35 fun _ _ _ _ _ _ us hl => match us, hl with | [_, _, _], _ => rfl, _, fd16, E16, He.glo_ok X G (c.fact 16 (f := .glo "are_loans") rfl), E16.kp, FunD.bindsN E16 fun _ _ _ _ _ _ us hl => match us, hl with | [_], _ => rfl, _, fd20, E20, He.glo_ok X G (c.fact 20 (f := .glo "by_days") rfl), E20.kp, FunD.bindsN E20 fun _ _ _ _ _ _ us hl => match us, hl with | [_], _ => rfl, _, fd12, E12, He.glo_ok X G (c.fact 12 (f := .glo "check_loans_terms") rfl), E12.kp, FunD.bindsN E12 fun _ _ _ _ _ _ us hl => match us, hl with | [_], _ => rfl, _, fd29, E29, He.glo_ok X G (c.fact 29 (f := .glo "check_loans_worths") rfl), E29.kp, FunD.bindsN E29 fun _ _ _ _ _ _ us hl => match us, hl with | [_], _ => rfl, _, fd6, E6, He.glo_ok X G (c.fact 6 (f := .glo "check_together") rfl), E6.kp, FunD.bindsN E6 fun _ _ _ _ _ _ us hl => match us, hl with | [_, _], _ => rfl, _, fd10, E10, He.glo_ok X G (c.fact 10 (f := .glo "checked_terms") rfl), E10.kp, FunD.bindsN E10 fun _ _ _ _ _ _ us hl => match us, hl with | [_, _], _ => rfl, _, fd24, E24, He.glo_ok X G (c.fact 24 (f := .glo "crates_by") rfl), E24.kp, FunD.bindsN E24 fun _ _ _ _ _ _ us hl => match us, hl with | [_], _ => rfl, _, fd18, E18, He.glo_ok X G (c.fact 18 (f := .glo "days_in_all") rfl), E18.kp, FunD.bindsN E18 fun _ _ _ _ _ _ us hl => match us, hl with | [_], _ => rfl, _, fd19, E19, He.glo_ok X G (c.fact 19 (f := .glo "days_of_longest") rfl), E19.kp, FunD.bindsN E19 fun _ _ _ _ _ _ us hl => match us, hl with | [_], _ => rfl, _, fd3, E3, He.glo_ok X G (c.fact 3 (f := .glo "fresh") rfl), E3.kp, FunD.bindsN E3 fun _ _ _ _ _ _ us hl => match us, hl with | [_], _ => rfl, _, fd0, E0, He.glo_ok X G (c.fact 0 (f := .glo "is_number") rfl), E0.kp, FunD.bindsN E0 fun _ _ _ _ _ _ us hl => match us, hl with | [_], _ => rfl, _, fd2, E2, He.glo_ok X G (c.fact 2 (f := .glo "is_numbers") rfl), E2.kp, FunD.bindsN E2 fun _ _ _ _ _ _ us hl => match us, hl with | [_, _], _ => rfl, _, fd1, E1, He.glo_ok X G (c.fact 1 (f := .glo "is_within") rfl), E1.kp, FunD.bindsN E1 fun _ _ _ _ _ _ us hl => match us, hl with | [_, _, _], _ => rfl, _, fd4, E4, He.glo_ok X G (c.fact 4 (f := .glo "joined") rfl), E4.kp, FunD.bindsN E4 fun _ _ _ _ _ _ us hl => match us, hl with | [_, _, _], _ => rfl, _, fd5, E5, He.glo_ok X G (c.fact 5 (f := .glo "labels_of") rfl), E5.kp, FunD.bindsN E5 fun _ _ _ _ _ _ us hl => match us, hl with | [_, _], _ => rfl, _, fd48, E48, He.glo_ok X G (c.fact 48 (f := .glo "law") rfl), E48.kp, FunD.bindsN E48 fun _ _ _ _ _ _ us hl => match us, hl with | [_], _ => rfl, _, fd21, E21, He.glo_ok X G (c.fact 21 (f := .glo "least_legs") rfl), E21.kp, FunD.bindsN E21 fun _ _ _ _ _ _ us hl => match us, hl with | [_, _], _ => rfl, _, fd30, E30, He.glo_ok X G (c.fact 30 (f := .glo "loan_gain") rfl), E30.kp, FunD.bindsN E30 fun _ _ _ _ _ _ us hl => match us, hl with | [_, _], _ => rfl, _, fd9, E9, He.glo_ok X G (c.fact 9 (f := .glo "made_terms") rfl), E9.kp, FunD.bindsN E9 fun _ _ _ _ _ _ us hl => match us, hl with | [_, _], _ => rfl, _, fd7, E7, He.glo_ok X G (c.fact 7 (f := .glo "made_web") rfl), E7.kp, FunD.bindsN E7 fun _ _ _ _ _ _ us hl => match us, hl with | [_], _ => rfl, _, fd25, E25, He.glo_ok X G (c.fact 25 (f := .glo "needed") rfl), E25.kp, FunD.bindsN E25 fun _ _ _ _ _ _ us hl => match us, hl with | [_, _], _ => rfl, _, fd27, E27, He.glo_ok X G (c.fact 27 (f := .glo "notice_gain") rfl), E27.kp, FunD.bindsN E27 fun _ _ _ _ _ _ us hl => match us, hl with | [_, _], _ => rfl, _, fd23, E23, He.glo_ok X G (c.fact 23 (f := .glo "reserve_by") rfl), E23.kp, FunD.bindsN E23 fun _ _ _ _ _ _ us hl => match us, hl with | [_], _ => rfl, _, fd26, E26, He.glo_ok X G (c.fact 26 (f := .glo "summands") rfl), E26.kp, FunD.bindsN E26 fun _ _ _ _ _ _ us hl => match us, hl with | [_, _], _ => rfl, _, fd22, E22, He.glo_ok X G (c.fact 22 (f := .glo "summands_by") rfl), E22.kp, FunD.bindsN E22 fun _ _ _ _ _ _ us hl => match us, hl with | [_, _], _ => rfl, _, fd17, E17, He.glo_ok X G (c.fact 17 (f := .glo "three_numbers") rfl), E17.kp, FunD.bindsN E17 fun _ _ _ _ _ _ us hl => match us, hl with | [_], _ => rfl, He.free_ok X G (c.fact 50 (f := .free "all") rfl), He.free_ok X G (c.fact 51 (f := .free "bool") rfl), He.free_ok X G (c.fact 52 (f := .free "enumerate") rfl), He.free_ok X G (c.fact 53 (f := .free "int") rfl), He.free_ok X G (c.fact 54 (f := .free "isinstance") rfl), He.free_ok X G (c.fact 55 (f := .free "len") rfl), He.free_ok X G (c.fact 56 (f := .free "list") rfl), He.free_ok X G (c.fact 57 (f := .free "max") rfl), He.free_ok X G (c.fact 58 (f := .free "min") rfl), He.free_ok X G (c.fact 59 (f := .free "range") rfl), He.free_ok X G (c.fact 60 (f := .free "repr") rfl), He.free_ok X G (c.fact 61 (f := .free "set") rfl), He.free_ok X G (c.fact 62 (f := .free "sorted") rfl), He.free_ok X G (c.fact 63 (f := .free "sum") rfl), He.free_ok X G (c.fact 64 (f := .free "tuple") rfl), He.int_ok X G (c.fact 67 (f := .int "MOST_ASKS" 20) rfl), He.int_ok X G (c.fact 66 (f := .int "MOST_DAYS" 200) rfl), He.int_ok X G (c.fact 65 (f := .int "MOST_PLACES" 40) rfl)⟩ : Glob (del K a) mg) h_is_number h_is_within h_is_numbers h_fresh h_joined h_labels_of h_check_together h_made_web h__check_ways h_made_terms h_checked_terms h__begins h__check_loans h_check_loans_terms h__check_trips h__is_table h__is_row h_are_loans h_three_numbers h_days_in_all h_days_of_longest h_by_days h_least_legs h_summands_by h_reserve_by h_crates_by h_needed h_summands h_notice_gain h_check_loans_worths h_loan_gain h__law_pool h__law_draw h__law_pick h__law_turned h__law_web_way h__law_web_days h__law_web_drawn h__law_web_rims h__law_web_any h__law_web_joined h__law_web_least h__law_web_length h__law_web_longest h__law_term_loans h__law_term_table h__law_term_trips h__law_notice_some h_law 20).o_law
end HeadT
open PySem PySem.W PySem.Calls PyProof.Rows
theorem law_from (pure : ∀ ns : List Int, ns.length ≤ 63 → ∃ S', Ev.callF HeadT.Tb 100000 20 "law" [.d (.list (ns.map .int))] [] = .ok (.d (.bool true)) S') : PySem.Challenge.rw_treeandtrip_k45_notice_day_by_day.Holds := by
  w_on; o_law
  refine HandSHeadRun.head_any (r := OpenLaw.row PySem.Challenge.rw_treeandtrip_k45_notice_day_by_day) (q := view (OpenLaw.row PySem.Challenge.rw_treeandtrip_k45_notice_day_by_day).prog [65]) (H := HeadT.hk) (ob := HeadT.ob) (M := 3000) (loose := HeadT.loose) (d := HandSHeadRun.topDef (OpenLaw.row PySem.Challenge.rw_treeandtrip_k45_notice_day_by_day).prog 65) (kwd := []) HeadT.ob_eq
    (by kernel_rfl) (fun s => by kernel_rfl) HeadT.run (by kernel_rfl) (by kernel_rfl) (by kernel_rfl) (by rfl) (by first | assumption | decide +kernel) (by decide +kernel) ⟨rfl, rfl, rfl, rfl, rfl, by decide +kernel⟩ ?hw ?hc
  case hw => w_witness2
  case hc =>
    refine Ev.walk_ofG (l := PySem.Challenge.rw_treeandtrip_k45_notice_day_by_day) (n := 63) (k := 2 * 20) (x := "script") rfl (by decide) (by kernel_rfl) ⟨rfl, by decide, by decide⟩ ?F
    intro w mg fa h Y G hmg0
    obtain ⟨K, KX, c⟩ := Y
    have hmg : mg ("law" : PySem.Str) = some (.ref fa) := by
      have e : (HandSHeadRun.topDef (OpenLaw.row PySem.Challenge.rw_treeandtrip_k45_notice_day_by_day).prog 65).name = ("law" : PySem.Str) := by kernel_rfl
      rw [← e]
      exact hmg0
    obtain ⟨fd, hb, hF⟩ := HeadT.facts (w := w) KX G hmg c
    exact ⟨K, fd, Ev.spEv mg 1 (Ev.callF HeadT.Tb 100000 20) "law", KX, hb, fun a vs ns hl => Ev.sp_law (pure ns hl), hF⟩
end
set_option autoImplicit true
section
/-! MW: webs of places as lists of ways (u, v, d); what hangs together; the ways taken one by one. -/
namespace MW
abbrev Wy := Nat × Nat × Nat
inductive Conn (l : List Wy) : Nat → Nat → Prop
  | refl (i : Nat) : Conn l i i
  | fwd {i j k d : Nat} : Conn l i j → (j, k, d) ∈ l → Conn l i k
  | bwd {i j k d : Nat} : Conn l i j → (k, j, d) ∈ l → Conn l i k
variable {l l' s s' : List Wy} {i j k u v d n : Nat} {w : Wy}
theorem Conn.trans (a : Conn l i j) (b : Conn l j k) : Conn l i k := by
  induction b with
  | refl => exact a
  | fwd _ m ih => exact .fwd ih m
  | bwd _ m ih => exact .bwd ih m
theorem Conn.symm (a : Conn l i j) : Conn l j i := by
  induction a with
  | refl => exact .refl _
  | fwd _ m ih => exact (Conn.bwd (.refl _) m).trans ih
  | bwd _ m ih => exact (Conn.fwd (.refl _) m).trans ih
theorem Conn.mono (h : ∀ w, w ∈ l → w ∈ l') (a : Conn l i j) : Conn l' i j := by
  induction a with
  | refl => exact .refl _
  | fwd _ m ih => exact .fwd ih (h _ m)
  | bwd _ m ih => exact .bwd ih (h _ m)
theorem Conn.of (h : (u, v, d) ∈ l) : Conn l u v := .fwd (.refl _) h
theorem Conn.of' (h : w ∈ l) : Conn l w.1 w.2.1 := .fwd (.refl _) (d := w.2.2) h
/-- a place at no way hangs together with itself alone -/
theorem Conn.iso (h : ∀ w, w ∈ l → w.1 ≠ j ∧ w.2.1 ≠ j) (a : Conn l i j) : i = j := by
  cases a with
  | refl => rfl
  | fwd _ m => exact absurd rfl (h _ m).2
  | bwd _ m => exact absurd rfl (h _ m).1
theorem conn_nil : Conn [] i j ↔ i = j := ⟨fun h => h.iso (by simp), fun h => h ▸ .refl _⟩
theorem conn_cons : Conn (w :: l) i j ↔ Conn l i j ∨ (Conn l i w.1 ∧ Conn l w.2.1 j) ∨ (Conn l i w.2.1 ∧ Conn l w.1 j) := by
  constructor
  · intro a
    induction a with
    | refl => exact .inl (.refl _)
    | @fwd j k d a m ih =>
      rcases List.mem_cons.mp m with e | m
      · subst e
        rcases ih with h | ⟨h, _⟩ | ⟨h, h2⟩
        · exact .inr (.inl ⟨h, .refl _⟩)
        · exact .inr (.inl ⟨h, .refl _⟩)
        · exact .inl h
      · rcases ih with h | ⟨h, h2⟩ | ⟨h, h2⟩
        · exact .inl (.fwd h m)
        · exact .inr (.inl ⟨h, .fwd h2 m⟩)
        · exact .inr (.inr ⟨h, .fwd h2 m⟩)
    | @bwd j k d a m ih =>
      rcases List.mem_cons.mp m with e | m
      · subst e
        rcases ih with h | ⟨h, _⟩ | ⟨h, h2⟩
        · exact .inr (.inr ⟨h, .refl _⟩)
        · exact .inl h
        · exact .inr (.inr ⟨h, .refl _⟩)
      · rcases ih with h | ⟨h, h2⟩ | ⟨h, h2⟩
        · exact .inl (.bwd h m)
        · exact .inr (.inl ⟨h, .bwd h2 m⟩)
        · exact .inr (.inr ⟨h, .bwd h2 m⟩)
  · have sub : ∀ w', w' ∈ l → w' ∈ w :: l := fun _ h => List.mem_cons_of_mem _ h
    have e : Conn (w :: l) w.1 w.2.1 := .of' (List.mem_cons_self ..)
    rintro (h | ⟨h, h2⟩ | ⟨h, h2⟩)
    · exact h.mono sub
    · exact ((h.mono sub).trans e).trans (h2.mono sub)
    · exact ((h.mono sub).trans e.symm).trans (h2.mono sub)
/-- all ends are below n -/
def Below (n : Nat) (l : List Wy) : Prop := ∀ w, w ∈ l → w.1 < n ∧ w.2.1 < n
theorem Below.nil : Below n [] := fun _ h => by simp at h
theorem Below.cons (h : w.1 < n ∧ w.2.1 < n) (b : Below n l) : Below n (w :: l) := fun x hx => by
  rcases List.mem_cons.mp hx with e | m
  · subst e; exact h
  · exact b x m
theorem Below.append (a : Below n l) (b : Below n l') : Below n (l ++ l') := fun x hx => by
  rcases List.mem_append.mp hx with e | m
  · exact a x e
  · exact b x m
/-- the same hang together, below n -/
def Eqv (n : Nat) (s s' : List Wy) : Prop := ∀ i j, i < n → j < n → (Conn s i j ↔ Conn s' i j)
theorem Eqv.cons (h : Eqv n s s') (hw : w.1 < n ∧ w.2.1 < n) : Eqv n (w :: s) (w :: s') := fun i j hi hj => by
  rw [conn_cons, conn_cons, h i j hi hj, h i _ hi hw.1, h i _ hi hw.2, h _ j hw.1 hj, h _ j hw.2 hj]
theorem Eqv.refl : Eqv n s s := fun _ _ _ _ => Iff.rfl
theorem Eqv.symm (h : Eqv n s s') : Eqv n s' s := fun i j hi hj => (h i j hi hj).symm
theorem Eqv.of_mem (h : ∀ w, w ∈ s ↔ w ∈ s') : Eqv n s s' := fun i j _ _ => ⟨fun a => a.mono fun w m => (h w).mp m, fun a => a.mono fun w m => (h w).mpr m⟩
/-- a way whose ends hang together changes nothing -/
theorem Eqv.old (h : Conn s w.1 w.2.1) : Eqv n (w :: s) s := fun i j _ _ => by
  rw [conn_cons]
  constructor
  · rintro (a | ⟨a, b⟩ | ⟨a, b⟩)
    · exact a
    · exact (a.trans h).trans b
    · exact (a.trans h.symm).trans b
  · exact .inl
/-- a way to a place at no way changes nothing for the others -/
theorem Eqv.pend (hs : Below n s) (hu : u < n) : Eqv n ((u, n, d) :: s) s := fun i j hi hj => by
  have iso : ∀ {i}, i < n → ¬ Conn s i n := fun hi a => by
    have := a.iso (j := n) fun w m => ⟨Nat.ne_of_lt (hs w m).1, Nat.ne_of_lt (hs w m).2⟩
    omega
  rw [conn_cons]
  constructor
  · rintro (a | ⟨a, b⟩ | ⟨a, b⟩)
    · exact a
    · exact absurd b.symm (iso hj)
    · exact absurd a (iso hi)
  · exact .inl
/-- the ways that are taken: those whose ends don't hang together yet -/
noncomputable def kr (s : List Wy) : List Wy → List Wy
  | [] => []
  | w :: r => open Classical in if Conn s w.1 w.2.1 then kr (w :: s) r else w :: kr (w :: s) r
theorem kr_old {r : List Wy} (h : Conn s w.1 w.2.1) : kr s (w :: r) = kr (w :: s) r := by rw [kr, if_pos h]
theorem kr_new {r : List Wy} (h : ¬ Conn s w.1 w.2.1) : kr s (w :: r) = w :: kr (w :: s) r := by rw [kr, if_neg h]
theorem kr_congr : ∀ {l : List Wy} {s s' : List Wy}, Eqv n s s' → Below n l → kr s l = kr s' l
  | [], _, _, _, _ => rfl
  | w :: r, s, s', h, hb => by
    have hw := hb w (List.mem_cons_self ..)
    have ih := kr_congr (h.cons hw) fun x hx => hb x (List.mem_cons_of_mem _ hx)
    by_cases c : Conn s w.1 w.2.1
    · rw [kr_old c, kr_old ((h _ _ hw.1 hw.2).mp c), ih]
    · rw [kr_new c, kr_new fun c' => c ((h _ _ hw.1 hw.2).mpr c'), ih]
theorem kr_append : ∀ {a b s : List Wy}, kr s (a ++ b) = kr s a ++ kr (a.reverse ++ s) b
  | [], b, s => rfl
  | w :: a, b, s => by
    have e : (w :: a).reverse ++ s = a.reverse ++ (w :: s) := by simp
    rw [e, List.cons_append]
    by_cases c : Conn s w.1 w.2.1
    · rw [kr_old c, kr_old c, kr_append]
    · rw [kr_new c, kr_new c, kr_append, List.cons_append]
theorem kr_mem : ∀ {l s : List Wy}, w ∈ kr s l → w ∈ l
  | x :: l, s, h => by
    by_cases c : Conn s x.1 x.2.1
    · rw [kr_old c] at h; exact List.mem_cons_of_mem _ (kr_mem h)
    · rw [kr_new c] at h
      rcases List.mem_cons.mp h with e | h
      · exact e ▸ List.mem_cons_self ..
      · exact List.mem_cons_of_mem _ (kr_mem h)
theorem kr_sub : ∀ {l s : List Wy}, (kr s l).Sublist l
  | [], s => by rw [kr]; exact .slnil
  | x :: l, s => by
    by_cases c : Conn s x.1 x.2.1
    · rw [kr_old c]; exact kr_sub.cons _
    · rw [kr_new c]; exact kr_sub.cons₂ _
/-- nothing is taken where all hangs together -/
theorem kr_none : ∀ {l s : List Wy}, (∀ w, w ∈ l → Conn s w.1 w.2.1) → kr s l = []
  | [], s, _ => by rw [kr]
  | x :: l, s, h => by
    rw [kr_old (h x (List.mem_cons_self ..))]
    exact kr_none fun w m => (h w (List.mem_cons_of_mem _ m)).mono fun w m => List.mem_cons_of_mem _ m
/-- ways of a new place n to unlike places are all taken -/
theorem kr_star : ∀ {l s : List Wy}, (∀ w, w ∈ l → w.1 < n ∧ w.2.1 = n) → (l.map (·.1)).Nodup → (∀ w, w ∈ s → w.1 < n ∧ w.2.1 = n ∧ w.1 ∉ l.map (·.1)) → kr s l = l
  | [], s, _, _, _ => by rw [kr]
  | w :: l, s, h, nd, hs => by
    have hw := h w (List.mem_cons_self ..)
    rw [List.map_cons, List.nodup_cons] at nd
    have c : ¬ Conn s w.1 w.2.1 := fun c => by
      have := c.symm.iso fun x m => ⟨fun e => (hs x m).2.2 (by rw [e]; simp), by have := (hs x m).2.1; omega⟩
      omega
    rw [kr_new c]
    refine congrArg (w :: ·) (kr_star (fun x m => h x (List.mem_cons_of_mem _ m)) nd.2 fun x m => ?_)
    rcases List.mem_cons.mp m with e | m
    · subst e; exact ⟨hw.1, hw.2, nd.1⟩
    · have := hs x m
      refine ⟨this.1, this.2.1, fun q => this.2.2 (by simp only [List.map_cons, List.mem_cons]; exact .inr q)⟩
/-- a way to a new place is taken, and changes nothing of the others -/
theorem kr_pend {a b : List Wy} (ha : Below n a) (hb : Below n b) (hu : u < n) : kr [] (a ++ (u, n, d) :: b) = kr [] a ++ (u, n, d) :: kr a.reverse b := by
  rw [kr_append, List.append_nil]
  have hr : Below n a.reverse := fun w m => ha w (List.mem_reverse.mp m)
  have c : ¬ Conn a.reverse u n := fun c => by
    have := c.iso (j := n) fun w m => ⟨Nat.ne_of_lt (hr w m).1, Nat.ne_of_lt (hr w m).2⟩
    omega
  rw [kr_new (w := (u, n, d)) c, kr_congr (Eqv.pend hr hu) hb]

/-! ### labels -/
theorem getD_lt {L : List Nat} (h : i < L.length) : L.getD i 0 = L[i] := by simp [List.getD, h]
theorem getD_range (h : i < n) : (List.range n).getD i 0 = i := by rw [getD_lt (by simpa using h)]; simp
structure Lab (n : Nat) (L : List Nat) (s : List Wy) : Prop where
  len : L.length = n
  iff : ∀ i j, i < n → j < n → (L.getD i 0 = L.getD j 0 ↔ Conn s i j)
theorem Lab.start : Lab n (List.range n) [] := ⟨by simp, fun i j hi hj => by
  rw [conn_nil, getD_range hi, getD_range hj]⟩
theorem getD_map {L : List Nat} {f : Nat → Nat} (h : i < L.length) : (L.map f).getD i 0 = f (L.getD i 0) := by
  rw [getD_lt (by simpa using h), getD_lt h, List.getElem_map]
/-- what makes one label of a and b, and leaves the others -/
def Joins (f : Nat → Nat) (a b : Nat) : Prop := ∀ x y, f x = f y ↔ x = y ∨ ((x = a ∨ x = b) ∧ (y = a ∨ y = b))
theorem joins_to {a b : Nat} : Joins (fun x => if x = a then b else x) a b := fun x y => by
  dsimp only
  split <;> split <;> omega
theorem Joins.symm {f : Nat → Nat} {a b : Nat} (h : Joins f a b) : Joins f b a := fun x y => by rw [h x y]; omega
theorem joins_low {a b : Nat} : Joins (fun x => if x = max a b then min a b else x) a b := by
  rcases Nat.le_total a b with h | h
  · rw [Nat.max_eq_right h, Nat.min_eq_left h]; exact joins_to.symm
  · rw [Nat.max_eq_left h, Nat.min_eq_right h]; exact joins_to
theorem Lab.join {L : List Nat} {f : Nat → Nat} (h : Lab n L s) (hw : w.1 < n ∧ w.2.1 < n) (hf : Joins f (L.getD w.1 0) (L.getD w.2.1 0)) : Lab n (L.map f) (w :: s) := by
  refine ⟨by simp [h.len], fun i j hi hj => ?_⟩
  rw [getD_map (by rw [h.len]; exact hi), getD_map (by rw [h.len]; exact hj), hf, conn_cons, h.iff i j hi hj, h.iff i _ hi hw.1, h.iff i _ hi hw.2, h.iff j _ hj hw.1, h.iff j _ hj hw.2]
  constructor
  · rintro (a | ⟨a | a, b | b⟩)
    · exact .inl a
    · exact .inl (a.trans b.symm)
    · exact .inr (.inl ⟨a, b.symm⟩)
    · exact .inr (.inr ⟨a, b.symm⟩)
    · exact .inl (a.trans b.symm)
  · rintro (a | ⟨a, b⟩ | ⟨a, b⟩)
    · exact .inl a
    · exact .inr ⟨.inl a, .inr b.symm⟩
    · exact .inr ⟨.inr a, .inl b.symm⟩
theorem Lab.keep {L : List Nat} (h : Lab n L s) (hw : w.1 < n ∧ w.2.1 < n) (e : L.getD w.1 0 = L.getD w.2.1 0) : Lab n L (w :: s) :=
  ⟨h.len, fun i j hi hj => by rw [h.iff i j hi hj, Eqv.old (n := n) ((h.iff _ _ hw.1 hw.2).mp e) i j hi hj]⟩
/-- the loop by which the program labels: each step by what f makes of the two labels -/
def labs (f : Nat → Nat → Nat → Nat) : List Nat → List Wy → List Nat
  | L, [] => L
  | L, w :: r => if L.getD w.1 0 = L.getD w.2.1 0 then labs f L r else labs f (L.map (f (L.getD w.1 0) (L.getD w.2.1 0))) r
theorem labs_nil {f : Nat → Nat → Nat → Nat} {L : List Nat} : labs f L [] = L := rfl
theorem labs_eq {f : Nat → Nat → Nat → Nat} {L : List Nat} {r : List Wy} (h : L.getD w.1 0 = L.getD w.2.1 0) : labs f L (w :: r) = labs f L r := by rw [MW.labs, if_pos h]
theorem labs_ne {f : Nat → Nat → Nat → Nat} {L : List Nat} {r : List Wy} (h : ¬ L.getD w.1 0 = L.getD w.2.1 0) : labs f L (w :: r) = labs f (L.map (f (L.getD w.1 0) (L.getD w.2.1 0))) r := by rw [MW.labs, if_neg h]
theorem Lab.labs {f : Nat → Nat → Nat → Nat} (hf : ∀ a b, Joins (f a b) a b) : ∀ {r : List Wy} {L : List Nat} {s : List Wy}, Lab n L s → Below n r → Lab n (labs f L r) (r.reverse ++ s)
  | [], L, s, h, _ => by simpa [MW.labs] using h
  | w :: r, L, s, h, hb => by
    have hw := hb w (List.mem_cons_self ..)
    have hb' : Below n r := fun x m => hb x (List.mem_cons_of_mem _ m)
    have e : (w :: r).reverse ++ s = r.reverse ++ (w :: s) := by simp
    rw [e]
    unfold MW.labs
    by_cases c : L.getD w.1 0 = L.getD w.2.1 0
    · rw [if_pos c]; exact Lab.labs hf (h.keep hw c) hb'
    · rw [if_neg c]; exact Lab.labs hf (h.join hw (hf _ _)) hb'
/-- the loop by which ways are taken -/
def take (f : Nat → Nat → Nat → Nat) : List Nat → List Wy → List Wy
  | L, [] => []
  | L, w :: r => if L.getD w.1 0 = L.getD w.2.1 0 then take f L r else w :: take f (L.map (f (L.getD w.1 0) (L.getD w.2.1 0))) r
theorem take_eq {f : Nat → Nat → Nat → Nat} {L : List Nat} {r : List Wy} (h : L.getD w.1 0 = L.getD w.2.1 0) : take f L (w :: r) = take f L r := by rw [take, if_pos h]
theorem take_ne {f : Nat → Nat → Nat → Nat} {L : List Nat} {r : List Wy} (h : ¬ L.getD w.1 0 = L.getD w.2.1 0) : take f L (w :: r) = w :: take f (L.map (f (L.getD w.1 0) (L.getD w.2.1 0))) r := by rw [take, if_neg h]
theorem take_kr {f : Nat → Nat → Nat → Nat} (hf : ∀ a b, Joins (f a b) a b) : ∀ {r : List Wy} {L : List Nat} {s : List Wy}, Lab n L s → Below n r → take f L r = kr s r
  | [], L, s, h, _ => by rw [take, kr]
  | w :: r, L, s, h, hb => by
    have hw := hb w (List.mem_cons_self ..)
    have hb' : Below n r := fun x m => hb x (List.mem_cons_of_mem _ m)
    unfold take
    by_cases c : L.getD w.1 0 = L.getD w.2.1 0
    · rw [if_pos c, kr_old ((h.iff _ _ hw.1 hw.2).mp c)]; exact take_kr hf (h.keep hw c) hb'
    · rw [if_neg c, kr_new fun q => c ((h.iff _ _ hw.1 hw.2).mpr q)]; exact congrArg _ (take_kr hf (h.join hw (hf _ _)) hb')
/-- low labels -/
def low (a b x : Nat) : Nat := if x = max a b then min a b else x
def onto (a b x : Nat) : Nat := if x = a then b else x
theorem joins_lowF (a b : Nat) : Joins (low a b) a b := joins_low
theorem joins_ontoF (a b : Nat) : Joins (onto a b) a b := joins_to
/-- the ways hold all n places together -/
def Whole (n : Nat) (l : List Wy) : Prop := ∀ i, i < n → Conn l 0 i
theorem low_zero : ∀ {r : List Wy} {L : List Nat}, 0 < L.length → L.getD 0 0 = 0 → (labs low L r).getD 0 0 = 0
  | [], L, _, h => h
  | w :: r, L, hl, h => by
    unfold labs
    split
    · exact low_zero hl h
    · refine low_zero (by simpa using hl) ?_
      rw [getD_map hl, h]
      unfold low
      split <;> omega
theorem labs_len {f : Nat → Nat → Nat → Nat} : ∀ {r : List Wy} {L : List Nat}, (labs f L r).length = L.length
  | [], L => rfl
  | w :: r, L => by
    unfold labs
    split
    · exact labs_len
    · rw [labs_len]; simp
/-- all labels are 0 at the end -/
theorem labels_zero {l : List Wy} (hb : Below n l) (hw : Whole n l) (hn : 0 < n) : ∀ i, i < n → (labs low (List.range n) l).getD i 0 = 0 := fun i hi => by
  have L := Lab.labs (f := low) joins_lowF (Lab.start (n := n)) hb
  have z : (labs low (List.range n) l).getD 0 0 = 0 := low_zero (by simpa using hn) (getD_range hn)
  have := (L.iff i 0 hi hn).mpr (by
    refine ((hw i hi).symm).mono fun w m => ?_
    simpa using m)
  omega
/-! ### how many are taken -/
def roots (n : Nat) (L : List Nat) : Nat := ((List.range n).filter fun i => L.getD i 0 == i).length
theorem filter_one {p q : Nat → Bool} {h : Nat} : ∀ {l : List Nat}, l.Nodup → (∀ i, i ∈ l → p i = true → q i = true ∨ i = h) → (l.filter p).length ≤ (l.filter q).length + 1
  | [], _, _ => by simp
  | x :: l, nd, hp => by
    rw [List.nodup_cons] at nd
    have ih := filter_one (l := l) nd.2 fun i m => hp i (List.mem_cons_of_mem _ m)
    by_cases e : x = h
    · have all : ∀ i, i ∈ l → p i = true → q i = true := fun i m c => by
        rcases hp i (List.mem_cons_of_mem _ m) c with a | a
        · exact a
        · exact absurd (by rw [e, ← a]; exact m) nd.1
      have sub : (l.filter p).length ≤ (l.filter q).length := by
        rw [← List.countP_eq_length_filter, ← List.countP_eq_length_filter]
        exact List.countP_mono_left fun i m c => all i m c
      have := List.length_filter_le q (x :: l)
      simp only [List.filter_cons]
      split <;> split <;> (try simp only [List.length_cons]) <;> omega
    · have hx := hp x (List.mem_cons_self ..)
      simp only [List.filter_cons]
      by_cases c : p x = true
      · rcases hx c with q1 | q1
        · rw [if_pos c, if_pos q1]; simp only [List.length_cons]; omega
        · exact absurd q1 e
      · rw [if_neg c]
        split <;> (try simp only [List.length_cons]) <;> omega
theorem roots_join {n : Nat} {L : List Nat} {a b : Nat} (hl : L.length = n) : roots n L ≤ roots n (L.map (low a b)) + 1 := by
  refine filter_one (h := max a b) List.nodup_range fun i m c => ?_
  have hi : i < n := by simpa using m
  rw [getD_map (by omega)]
  simp only [beq_iff_eq] at c ⊢
  rw [c]
  unfold low
  by_cases e : i = max a b
  · exact .inr e
  · exact .inl (if_neg e)
theorem roots_take : ∀ {r : List Wy} {L : List Nat}, L.length = n → roots n L ≤ roots n (labs low L r) + (take low L r).length
  | [], L, _ => by simp [labs, take]
  | w :: r, L, hl => by
    unfold labs take
    split
    · exact roots_take hl
    · have h1 := roots_join (a := L.getD w.1 0) (b := L.getD w.2.1 0) hl
      have h2 := roots_take (r := r) (L := L.map (low (L.getD w.1 0) (L.getD w.2.1 0))) (by simpa using hl)
      simp only [List.length_cons]
      omega
theorem kr_many {l : List Wy} (hb : Below n l) (hw : Whole n l) (hn : 0 < n) : n ≤ (kr [] l).length + 1 := by
  rw [← take_kr (f := low) joins_lowF (Lab.start (n := n)) hb]
  have h := roots_take (n := n) (r := l) (L := List.range n) (by simp)
  have h0 : roots n (List.range n) = n := by
    unfold roots
    rw [List.filter_eq_self.mpr]
    · simp
    · intro i m
      have hi : i < n := by simpa using m
      rw [getD_range hi]
      simp
  have h1 : roots n (labs low (List.range n) l) ≤ 1 := by
    unfold roots
    have : ((List.range n).filter fun i => (labs low (List.range n) l).getD i 0 == i).length ≤ ((List.range n).filter fun i => false).length + 1 := by
      refine filter_one (h := 0) List.nodup_range fun i m c => .inr ?_
      have hi : i < n := by simpa using m
      have := labels_zero hb hw hn i hi
      simp only [beq_iff_eq] at c
      omega
    exact Nat.le_trans this (by simp [List.filter_eq_nil_iff])
  omega
end MW
end
set_option autoImplicit true
section
/-! MW2: ways in order; the length and the longest leg of the least tree. -/
namespace MW
def leD (a b : Wy) : Bool := decide (a.2.2 < b.2.2 ∨ (a.2.2 = b.2.2 ∧ (a.1 < b.1 ∨ (a.1 = b.1 ∧ a.2.1 ≤ b.2.1))))
def leU (a b : Wy) : Bool := decide (a.1 < b.1 ∨ (a.1 = b.1 ∧ (a.2.1 < b.2.1 ∨ (a.2.1 = b.2.1 ∧ a.2.2 ≤ b.2.2))))
theorem leD_iff {a b : Wy} : leD a b = true ↔ (a.2.2 < b.2.2 ∨ (a.2.2 = b.2.2 ∧ (a.1 < b.1 ∨ (a.1 = b.1 ∧ a.2.1 ≤ b.2.1)))) := by unfold leD; simp
theorem leU_iff {a b : Wy} : leU a b = true ↔ (a.1 < b.1 ∨ (a.1 = b.1 ∧ (a.2.1 < b.2.1 ∨ (a.2.1 = b.2.1 ∧ a.2.2 ≤ b.2.2)))) := by unfold leU; simp
theorem leD_trans (a b c : Wy) (h : leD a b = true) (h2 : leD b c = true) : leD a c = true := by rw [leD_iff] at *; omega
theorem leU_trans (a b c : Wy) (h : leU a b = true) (h2 : leU b c = true) : leU a c = true := by rw [leU_iff] at *; omega
theorem leD_total (a b : Wy) : (leD a b || leD b a) = true := by rw [Bool.or_eq_true, leD_iff, leD_iff]; omega
theorem leU_total (a b : Wy) : (leU a b || leU b a) = true := by rw [Bool.or_eq_true, leU_iff, leU_iff]; omega
theorem wy_ext {a b : Wy} (h : a.1 = b.1) (h2 : a.2.1 = b.2.1) (h3 : a.2.2 = b.2.2) : a = b := by
  obtain ⟨a1, a2, a3⟩ := a; obtain ⟨b1, b2, b3⟩ := b
  simp only at h h2 h3; subst h h2 h3; rfl
theorem leD_anti {a b : Wy} (h : leD a b = true) (h2 : leD b a = true) : a = b := by
  rw [leD_iff] at *
  exact wy_ext (by omega) (by omega) (by omega)
theorem leU_anti {a b : Wy} (h : leU a b = true) (h2 : leU b a = true) : a = b := by
  rw [leU_iff] at *
  exact wy_ext (by omega) (by omega) (by omega)
def sortD (l : List Wy) : List Wy := l.mergeSort leD
def sortU (l : List Wy) : List Wy := l.mergeSort leU
variable {l l' : List Wy} {n u d : Nat}
theorem sortD_perm : (sortD l).Perm l := List.mergeSort_perm l leD
theorem sortU_perm : (sortU l).Perm l := List.mergeSort_perm l leU
theorem sortD_ord : (sortD l).Pairwise (fun a b => leD a b = true) := List.pairwise_mergeSort leD_trans leD_total l
theorem sortU_ord : (sortU l).Pairwise (fun a b => leU a b = true) := List.pairwise_mergeSort leU_trans leU_total l
theorem sortD_of (h : l.Perm l') (o : l'.Pairwise (fun a b => leD a b = true)) : sortD l = l' :=
  List.Perm.eq_of_pairwise (fun a b _ _ x y => leD_anti x y) sortD_ord o (sortD_perm.trans h)
theorem sortU_of (h : l.Perm l') (o : l'.Pairwise (fun a b => leU a b = true)) : sortU l = l' :=
  List.Perm.eq_of_pairwise (fun a b _ _ x y => leU_anti x y) sortU_ord o (sortU_perm.trans h)
theorem sortD_congr (h : l.Perm l') : sortD l = sortD l' := sortD_of (h.trans sortD_perm.symm) sortD_ord
def days (l : List Wy) : Nat := (l.map (·.2.2)).sum
def mx : List Wy → Nat
  | [] => 0
  | w :: r => max w.2.2 (mx r)
theorem days_perm (h : l.Perm l') : days l = days l' := (h.map _).sum_nat
theorem mx_append : mx (l ++ l') = max (mx l) (mx l') := by
  induction l with
  | nil => simp [mx]
  | cons w r ih => simp only [List.cons_append, mx, ih]; omega
theorem mx_perm (h : l.Perm l') : mx l = mx l' := by
  induction h with
  | nil => rfl
  | cons w _ ih => simp only [mx, ih]
  | swap a b l => simp only [mx]; omega
  | trans _ _ a b => rw [a, b]
theorem days_append : days (l ++ l') = days l + days l' := by simp [days]
theorem days_cons {w : Wy} : days (w :: l) = w.2.2 + days l := by simp [days]
/-- the least tree's legs, as they are taken -/
noncomputable def least (l : List Wy) : List Wy := kr [] (sortD l)
theorem least_congr (h : l.Perm l') : least l = least l' := by unfold least; rw [sortD_congr h]
theorem Below.perm (h : Below n l) (p : l'.Perm l) : Below n l' := fun w m => h w (p.mem_iff.mp m)
theorem Whole.perm (h : Whole n l) (p : l.Perm l') : Whole n l' := fun i hi => (h i hi).mono fun w m => p.mem_iff.mp m
/-- a place at the end of one way -/
theorem least_pend (hb : Below n l) (hu : u < n) : ∃ a b, least l = a ++ b ∧ least (l ++ [(u, n, d)]) = a ++ (u, n, d) :: b := by
  have m : (u, n, d) ∈ sortD (l ++ [(u, n, d)]) := sortD_perm.mem_iff.mpr (by simp)
  obtain ⟨a, b, e⟩ := List.append_of_mem m
  have o := sortD_ord (l := l ++ [(u, n, d)])
  have p := sortD_perm (l := l ++ [(u, n, d)])
  rw [e] at o p
  have p2 : (a ++ b).Perm l := by
    have : ((u, n, d) :: (a ++ b)).Perm ((u, n, d) :: l) := (List.perm_middle.symm.trans p).trans (List.perm_append_comm)
    exact this.cons_inv
  have o2 : (a ++ b).Pairwise (fun a b => leD a b = true) := o.sublist (List.Sublist.append (List.Sublist.refl a) (List.sublist_cons_self _ _))
  have e2 : sortD l = a ++ b := sortD_of p2.symm o2
  have hb2 := hb.perm p2
  have ha : Below n a := fun w m => hb2 w (List.mem_append_left _ m)
  have hb3 : Below n b := fun w m => hb2 w (List.mem_append_right _ m)
  refine ⟨kr [] a, kr a.reverse b, ?_, ?_⟩
  · unfold least; rw [e2, kr_append, List.append_nil]
  · unfold least; rw [e, kr_pend ha hb3 hu]
theorem days_pend (hb : Below n l) (hu : u < n) : days (least (l ++ [(u, n, d)])) = days (least l) + d := by
  obtain ⟨a, b, e1, e2⟩ := least_pend (d := d) hb hu
  rw [e1, e2, days_append, days_append, days_cons]
  show days a + (d + days b) = _
  omega
theorem mx_pend (hb : Below n l) (hu : u < n) : mx (least (l ++ [(u, n, d)])) = max (mx (least l)) d := by
  obtain ⟨a, b, e1, e2⟩ := least_pend (d := d) hb hu
  rw [e1, e2, mx_append, mx_append, mx]
  show max (mx a) (max d (mx b)) = _
  omega
/-- a place in the middle, nearer to all than they are to one another -/
theorem least_star {row : List Wy} (hb : Below n l) (hr : ∀ w, w ∈ row → w.1 < n ∧ w.2.1 = n) (nd : (row.map (·.1)).Nodup) (all : ∀ i, i < n → i ∈ row.map (·.1)) (near : ∀ w, w ∈ row → ∀ x, x ∈ l → w.2.2 < x.2.2) : least (l ++ row) = sortD row := by
  have e : sortD (l ++ row) = sortD row ++ sortD l := by
    refine sortD_of ?_ ?_
    · exact (List.perm_append_comm).trans (sortD_perm.symm.append sortD_perm.symm)
    · refine List.pairwise_append.mpr ⟨sortD_ord, sortD_ord, fun w m x k => ?_⟩
      have := near w (sortD_perm.mem_iff.mp m) x (sortD_perm.mem_iff.mp k)
      rw [leD_iff]
      exact .inl this
  have hr2 : ∀ w, w ∈ sortD row → w.1 < n ∧ w.2.1 = n := fun w m => hr w (sortD_perm.mem_iff.mp m)
  have nd2 : ((sortD row).map (·.1)).Nodup := (sortD_perm.map _).nodup_iff.mpr nd
  unfold least
  rw [e, kr_append, List.append_nil, kr_star hr2 nd2 (fun w m => by simp at m), kr_none, List.append_nil]
  intro w m
  have wb := hb w (sortD_perm.mem_iff.mp m)
  have c : ∀ i, i < n → Conn (sortD row).reverse i n := fun i hi => by
    obtain ⟨x, hx, e⟩ := List.mem_map.mp (all i hi)
    have h2 := (hr x hx).2
    have : x = (i, n, x.2.2) := wy_ext e h2 rfl
    exact .of (d := x.2.2) (by rw [← this, List.mem_reverse]; exact sortD_perm.mem_iff.mpr hx)
  exact (c _ wb.1).trans (c _ wb.2).symm
theorem days_sortD : days (sortD l) = days l := days_perm sortD_perm
theorem mx_sortD : mx (sortD l) = mx l := mx_perm sortD_perm
theorem least_many (hb : Below n l) (hw : Whole n l) (hn : 0 < n) : n ≤ (least l).length + 1 := kr_many (hb.perm sortD_perm) (hw.perm sortD_perm.symm) hn
theorem least_mem {w : Wy} (h : w ∈ least l) : w ∈ l := sortD_perm.mem_iff.mp (kr_mem h)
theorem days_ge {c : Nat} : ∀ {l : List Wy}, (∀ w, w ∈ l → c ≤ w.2.2) → l.length * c ≤ days l
  | [], _ => by simp
  | w :: r, h => by
    have h1 := h w (List.mem_cons_self ..)
    have h2 := days_ge (l := r) fun x m => h x (List.mem_cons_of_mem _ m)
    rw [days_cons, List.length_cons, Nat.add_mul]
    omega
theorem days_le {c : Nat} : ∀ {l : List Wy}, (∀ w, w ∈ l → w.2.2 ≤ c) → days l ≤ l.length * c
  | [], _ => by simp [days]
  | w :: r, h => by
    have h1 := h w (List.mem_cons_self ..)
    have h2 := days_le (l := r) fun x m => h x (List.mem_cons_of_mem _ m)
    rw [days_cons, List.length_cons, Nat.add_mul]
    omega
theorem mx_le {c : Nat} : ∀ {l : List Wy}, (∀ w, w ∈ l → w.2.2 ≤ c) → mx l ≤ c
  | [], _ => Nat.zero_le _
  | w :: r, h => by
    have h1 := h w (List.mem_cons_self ..)
    have h2 := mx_le (l := r) fun x m => h x (List.mem_cons_of_mem _ m)
    rw [mx]; omega
theorem mx_ge {w : Wy} : ∀ {l : List Wy}, w ∈ l → w.2.2 ≤ mx l
  | x :: r, h => by
    rcases List.mem_cons.mp h with e | m
    · subst e; rw [mx]; omega
    · have := mx_ge m; rw [mx]; omega
end MW
end
section
/-! EvC: the program's functions, and those by which a law draws, as terms of the small language (made by gen.py). -/
namespace Ev.C
open Ev
def t_is_number : Fn := ⟨1, 1, false, [(.ret (.and (.bi (.isi "int") [(.var 0)]) (.not (.bi (.isi "bool") [(.var 0)]))))]⟩
def t_is_within : Fn := ⟨3, 3, false, [(.ret (.and (.call "is_number" [(.var 0)]) (.chain2 (.var 1) .le (.var 0) .le (.var 2))))]⟩
def t_is_numbers : Fn := ⟨2, 3, false, [(.ite (.or (.not (.bi (.isi "tuple") [(.var 0)])) (.cmp .ne (.bi .len [(.var 0)]) (.var 1))) [(.ret (.lit (.bool false)))] []), (.forS (.name 2) (.seq (.var 0)) [(.ite (.or (.not (.bi (.isi "int") [(.var 2)])) (.bi (.isi "bool") [(.var 2)])) [(.ret (.lit (.bool false)))] [])]), (.ret (.lit (.bool true)))]⟩
def t_fresh : Fn := ⟨1, 2, false, [(.ite (.not (.bi (.isi "tuple") [(.var 0)])) [(.ret (.var 0))] []), (.ret (.bi .tupOf [(.comp false [1] (.name 1) (.seq (.var 0)) none (.ite (.bi (.isi "tuple") [(.var 1)]) (.call "fresh" [(.var 1)]) (.var 1)))]))]⟩
def t_is_place : Fn := ⟨2, 2, false, [(.ret (.call "is_within" [(.var 1), (.lit (.int 0)), (.bin .sub (.var 0) (.lit (.int 1)))]))]⟩
def t_joined : Fn := ⟨3, 6, false, [(.set 3 (.bi .min2 [(.ix (.var 0) (.var 1)), (.ix (.var 0) (.var 2))])), (.set 4 (.bi .max2 [(.ix (.var 0) (.var 1)), (.ix (.var 0) (.var 2))])), (.ret (.comp false [5] (.name 5) (.seq (.var 0)) none (.ite (.cmp .eq (.var 5) (.var 4)) (.var 3) (.var 5))))]⟩
def t_labels_of : Fn := ⟨2, 6, false, [(.set 2 (.bi (.rangeList false) [(.var 0)])), (.forS (.tup [3, 4, 5]) (.seq (.var 1)) [(.ite (.cmp .ne (.ix (.var 2) (.var 3)) (.ix (.var 2) (.var 4))) [(.set 2 (.call "joined" [(.var 2), (.var 3), (.var 4)]))] [])]), (.ret (.var 2))]⟩
def t_check_together : Fn := ⟨2, 4, false, [(.forS (.tup [2, 3]) (.enum (.call "labels_of" [(.var 0), (.var 1)])) [(.ite (.cmp .ne (.var 3) (.lit (.int 0))) [.dead] [])])]⟩
def t_made_web : Fn := ⟨1, 6, false, [(.ite (.or (.not (.bi (.isi "tuple") [(.var 0)])) (.cmp .ne (.bi .len [(.var 0)]) (.lit (.int 2)))) [.dead] []), (.unpack [1, 2] (.var 0)), (.ite (.not (.call "is_within" [(.var 1), (.lit (.int 1)), (.lit (.int 40))])) [.dead] []), (.ite (.not (.bi (.isi "tuple") [(.var 2)])) [.dead] []), (.expr (.call "_check_ways" [(.var 1), (.var 2)])), (.expr (.call "check_together" [(.var 1), (.var 2)])), (.ret (.tup [(.var 1), (.bi .tupOf [(.comp false [3, 4, 5] (.tup [3, 4, 5]) (.seq (.var 2)) none (.tup [(.var 3), (.var 4), (.var 5)]))])]))]⟩
def t__check_ways : Fn := ⟨2, 8, false, [(.set 2 (.tup [(.neg (.lit (.int 1))), (.neg (.lit (.int 1)))])), (.forS (.tup [3, 4]) (.enum (.var 1)) [(.ite (.not (.call "is_numbers" [(.var 4), (.lit (.int 3))])) [.dead] []), (.unpack [5, 6, 7] (.var 4)), (.ite (.or (.not (.chain3 (.lit (.int 0)) .le (.var 5) .lt (.var 6) .lt (.var 0))) (.or (.not (.chain2 (.lit (.int 1)) .le (.var 7) .le (.lit (.int 200)))) (.cmp .le (.tup [(.var 5), (.var 6)]) (.var 2)))) [.dead] []), (.set 2 (.tup [(.var 5), (.var 6)]))])]⟩
def t_with_place : Fn := ⟨2, 6, false, [(.unpack [2, 3] (.call "made_web" [(.var 0)])), (.expr (.call "_check_row" [(.var 2), (.var 1)])), (.ite (.cmp .eq (.var 2) (.lit (.int 40))) [.dead] []), (.ret (.tup [(.bin .add (.var 2) (.lit (.int 1))), (.bi .tupOf [(.bi (.sorted false) [(.bin .add (.bi (.listOf false) [(.var 3)]) (.comp false [4, 5] (.tup [4, 5]) (.seq (.var 1)) none (.tup [(.var 4), (.var 2), (.var 5)])))])])]))]⟩
def t__check_row : Fn := ⟨2, 4, false, [(.ite (.or (.not (.bi (.isi "tuple") [(.var 1)])) (.cmp .eq (.var 1) (.tup []))) [.dead] []), (.set 2 (.neg (.lit (.int 1)))), (.forS (.name 3) (.seq (.var 1)) [(.ite (.or (.not (.call "is_numbers" [(.var 3), (.lit (.int 2))])) (.or (.not (.call "is_place" [(.var 0), (.ix (.var 3) (.lit (.int 0)))])) (.not (.call "is_within" [(.ix (.var 3) (.lit (.int 1))), (.lit (.int 1)), (.lit (.int 200))])))) [.dead] []), (.ite (.cmp .le (.ix (.var 3) (.lit (.int 0))) (.var 2)) [.dead] []), (.set 2 (.ix (.var 3) (.lit (.int 0))))])]⟩
def t_made_terms : Fn := ⟨2, 4, false, [(.unpack [2, 3] (.call "made_web" [(.var 0)])), (.ret (.call "checked_terms" [(.var 2), (.var 1)]))]⟩
def t_checked_terms : Fn := ⟨2, 2, false, [(.ite (.call "_begins" [(.var 1), (.lit (.str "loans")), (.lit (.int 4))]) [(.expr (.call "check_loans_terms" [(.var 1)]))] [(.ite (.call "_begins" [(.var 1), (.lit (.str "trips")), (.lit (.int 3))]) [(.expr (.call "_check_trips" [(.var 0), (.var 1)]))] [.dead])]), (.ret (.call "fresh" [(.var 1)]))]⟩
def t__begins : Fn := ⟨3, 3, false, [(.ret (.and (.bi (.isi "tuple") [(.var 0)]) (.and (.cmp .eq (.bi .len [(.var 0)]) (.var 2)) (.cmp .eq (.ix (.var 0) (.lit (.int 0))) (.var 1)))))]⟩
def t__check_loans : Fn := ⟨1, 1, false, [(.ite (.not (.call "are_loans" [(.var 0)])) [.dead] [])]⟩
def t_check_loans_terms : Fn := ⟨1, 1, false, [(.ite (.not (.call "is_within" [(.ix (.var 0) (.lit (.int 1))), (.lit (.int 1)), (.lit (.int 20))])) [.dead] []), (.ite (.not (.call "is_within" [(.ix (.var 0) (.lit (.int 2))), (.lit (.int 1)), (.lit (.int 200))])) [.dead] []), (.ite (.not (.call "is_within" [(.ix (.var 0) (.lit (.int 3))), (.lit (.int 0)), (.ix (.var 0) (.lit (.int 2)))])) [.dead] [])]⟩
def t__check_trips : Fn := ⟨2, 2, false, [(.ite (.cmp .eq (.var 0) (.lit (.int 1))) [.dead] []), (.ite (.not (.call "is_within" [(.ix (.var 1) (.lit (.int 1))), (.lit (.int 1)), (.lit (.int 20))])) [.dead] []), (.ite (.not (.call "_is_table" [(.var 0), (.ix (.var 1) (.lit (.int 2)))])) [.dead] [])]⟩
def t__is_table : Fn := ⟨2, 4, false, [(.ite (.or (.not (.bi (.isi "tuple") [(.var 1)])) (.cmp .ne (.bi .len [(.var 1)]) (.var 0))) [(.ret (.lit (.bool false)))] []), (.ret (.bi .all [(.comp false [2, 3] (.tup [2, 3]) (.enum (.var 1)) none (.call "_is_row" [(.var 0), (.var 2), (.var 3)]))]))]⟩
def t__is_row : Fn := ⟨3, 4, false, [(.ite (.or (.not (.call "is_numbers" [(.var 2), (.var 0)])) (.cmp .ne (.ix (.var 2) (.var 1)) (.lit (.int 0)))) [(.ret (.lit (.bool false)))] []), (.ret (.bi .all [(.comp false [3] (.name 3) (.seq (.bin .add (.sl (.var 2) none (some (.var 1))) (.sl (.var 2) (some (.bin .add (.var 1) (.lit (.int 1)))) none))) none (.chain2 (.lit (.int 1)) .le (.var 3) .le (.lit (.int 200))))]))]⟩
def t_are_loans : Fn := ⟨1, 1, false, [(.ret (.cmp .eq (.ix (.var 0) (.lit (.int 0))) (.lit (.str "loans"))))]⟩
def t_three_numbers : Fn := ⟨1, 3, false, [(.ite (.call "are_loans" [(.var 0)]) [(.ret (.sl (.var 0) (some (.lit (.int 1))) none))] []), (.set 1 (.bi .maxL [(.comp false [2] (.name 2) (.seq (.ix (.var 0) (.lit (.int 2)))) none (.bi .maxL [(.var 2)]))])), (.ret (.tup [(.ix (.var 0) (.lit (.int 1))), (.var 1), (.var 1)]))]⟩
def t_days_in_all : Fn := ⟨1, 2, false, [(.ret (.bi .sum [(.comp false [1] (.name 1) (.seq (.var 0)) none (.ix (.var 1) (.lit (.int 2))))]))]⟩
def t_days_of_longest : Fn := ⟨1, 2, false, [(.ret (.bi .maxD [(.comp false [1] (.name 1) (.seq (.var 0)) none (.ix (.var 1) (.lit (.int 2)))), (.lit (.int 0))]))]⟩
def t_by_days : Fn := ⟨1, 1, false, [(.ret (.tup [(.ix (.var 0) (.lit (.int 2))), (.ix (.var 0) (.lit (.int 0))), (.ix (.var 0) (.lit (.int 1)))]))]⟩
def t_least_legs : Fn := ⟨2, 7, false, [(.set 2 (.lst true [])), (.set 3 (.bi (.rangeList false) [(.var 0)])), (.forS (.tup [4, 5, 6]) (.seq (.sortK false "by_days" (.var 1))) [(.ite (.cmp .ne (.ix (.var 3) (.var 4)) (.ix (.var 3) (.var 5))) [(.expr (.meth .append (.var 2) [(.tup [(.var 4), (.var 5), (.var 6)])])), (.set 3 (.call "joined" [(.var 3), (.var 4), (.var 5)]))] [])]), (.ret (.var 2))]⟩
def t_summands_by : Fn := ⟨2, 5, false, [(.unpack [2, 3, 4] (.call "three_numbers" [(.var 0)])), (.ret (.tup [(.var 2), (.call "days_in_all" [(.var 1)]), (.call "days_of_longest" [(.var 1)]), (.var 3), (.var 4)]))]⟩
def t_reserve_by : Fn := ⟨1, 4, false, [(.unpack [1, 2, 3] (.sl (.var 0) (some (.lit (.int 2))) none)), (.ret (.bin .add (.var 2) (.bi .max2 [(.lit (.int 0)), (.bin .sub (.var 1) (.var 3))])))]⟩
def t_crates_by : Fn := ⟨1, 1, false, [(.ret (.bin .mul (.ix (.var 0) (.lit (.int 0))) (.bin .add (.ix (.var 0) (.lit (.int 1))) (.call "reserve_by" [(.var 0)]))))]⟩
def t_needed : Fn := ⟨2, 2, false, [(.ret (.call "crates_by" [(.call "summands" [(.var 0), (.var 1)])]))]⟩
def t_summands : Fn := ⟨2, 5, false, [(.set 2 (.call "made_terms" [(.var 0), (.var 1)])), (.unpack [3, 4] (.call "made_web" [(.var 0)])), (.ret (.call "summands_by" [(.var 2), (.call "least_legs" [(.var 3), (.var 4)])]))]⟩
def t_check_loans_worths : Fn := ⟨1, 1, false, [(.ite (.not (.call "are_loans" [(.var 0)])) [.dead] [])]⟩
def t_place_gain : Fn := ⟨3, 3, false, [(.expr (.call "check_loans_worths" [(.call "made_terms" [(.var 0), (.var 1)])])), (.ret (.bin .sub (.call "needed" [(.call "with_place" [(.var 0), (.var 2)]), (.var 1)]) (.call "needed" [(.var 0), (.var 1)])))]⟩
def t__law_pool : Fn := ⟨1, 3, true, [(.set 1 (.ite (.cmp .gt (.bi .len [(.var 0)]) (.lit (.int 0))) (.bi .int [(.ix (.var 0) (.lit (.int 0)))]) (.lit (.int 0)))), (.set 2 (.ite (.cmp .ge (.var 1) (.lit (.int 0))) (.bin .mul (.lit (.int 2)) (.var 1)) (.bin .sub (.neg (.lit (.int 1))) (.bin .mul (.lit (.int 2)) (.var 1))))), (.ret (.box [(.ite (.cmp .ge (.var 2) (.bin .pow (.lit (.int 10)) (.lit (.int 18)))) (.var 2) (.lit (.int 0))), (.bin .add (.bin .mod (.bi .int [(.bin .add (.bin .mul (.var 2) (.lit (.int 48271))) (.lit (.int 1009)))]) (.lit (.int 2147483629))) (.lit (.int 3))), (.bi (.listOf true) [(.sl (.var 0) (some (.lit (.int 1))) none)])]))]⟩
def t__law_draw : Fn := ⟨2, 5, false, [(.ite (.and (.cmp .eq (.ix (.var 0) (.lit (.int 0))) (.lit (.int 0))) (.cmp .ne (.ix (.var 0) (.lit (.int 2))) (.lst false []))) [(.set 2 (.bi .int [(.meth .popAt (.ix (.var 0) (.lit (.int 2))) [(.lit (.int 0))])])), (.set 3 (.ite (.cmp .ge (.var 2) (.lit (.int 0))) (.bin .mul (.lit (.int 2)) (.var 2)) (.bin .sub (.neg (.lit (.int 1))) (.bin .mul (.lit (.int 2)) (.var 2))))), (.setIx (.var 0) (.lit (.int 0)) (.ite (.cmp .ge (.var 3) (.bin .pow (.lit (.int 10)) (.lit (.int 18)))) (.var 3) (.lit (.int 0)))), (.setIx (.var 0) (.lit (.int 1)) (.bin .add (.bin .mod (.bi .int [(.bin .add (.ix (.var 0) (.lit (.int 1))) (.bin .mul (.var 3) (.lit (.int 69621))))]) (.lit (.int 2147483629))) (.lit (.int 3))))] []), (.ite (.cmp .gt (.ix (.var 0) (.lit (.int 0))) (.lit (.int 0))) [(.set 4 (.bin .mod (.bi .int [(.ix (.var 0) (.lit (.int 0)))]) (.var 1))), (.setIx (.var 0) (.lit (.int 0)) (.bin .fdiv (.ix (.var 0) (.lit (.int 0))) (.var 1))), (.ret (.var 4))] []), (.setIx (.var 0) (.lit (.int 1)) (.bin .mod (.bi .int [(.bin .add (.bin .mul (.ix (.var 0) (.lit (.int 1))) (.lit (.int 48271))) (.lit (.int 11)))]) (.lit (.int 2147483647)))), (.ret (.bin .mod (.bin .fdiv (.bin .mod (.bi .int [(.bin .mul (.ix (.var 0) (.lit (.int 1))) (.ix (.var 0) (.lit (.int 1))))]) (.lit (.int 2147483629))) (.lit (.int 32))) (.var 1)))]⟩
def t__law_pick : Fn := ⟨2, 2, false, [(.ret (.ix (.var 1) (.call "_law_draw" [(.var 0), (.bi .len [(.var 1)])])))]⟩
def t__law_turned : Fn := ⟨2, 5, false, [(.par [3, 4] [(.bi (.rangeList true) [(.var 1)]), (.lst true [])]), (.forS (.name 2) (.range1 (.var 1)) [(.expr (.meth .append (.var 4) [(.meth .popAt (.var 3) [(.call "_law_draw" [(.var 0), (.bi .len [(.var 3)])])])]))]), (.ret (.var 4))]⟩
def t__law_web_way : Fn := ⟨3, 3, false, [(.ret (.tup [(.bi .min2 [(.var 0), (.var 1)]), (.bi .max2 [(.var 0), (.var 1)]), (.var 2)]))]⟩
def t__law_web_days : Fn := ⟨2, 2, false, [(.ret (.bin .add (.lit (.int 1)) (.call "_law_draw" [(.var 0), (.call "_law_pick" [(.var 0), (.lst false [(.bi .min2 [(.var 1), (.lit (.int 2))]), (.bi .min2 [(.var 1), (.lit (.int 3))]), (.var 1)])])])))]⟩
def t__law_web_drawn : Fn := ⟨4, 11, false, [(.par [6, 7] [(.call "_law_turned" [(.var 0), (.var 1)]), .dict0]), (.forS (.name 4) (.range2 (.lit (.int 1)) (.var 1)) [(.set 8 (.call "_law_web_way" [(.ix (.var 6) (.var 4)), (.ix (.var 6) (.call "_law_draw" [(.var 0), (.var 4)])), (.call "_law_web_days" [(.var 0), (.var 2)])])), (.setIx (.var 7) (.sl (.var 8) none (some (.lit (.int 2)))) (.var 8))]), (.forS (.name 5) (.range1 (.call "_law_draw" [(.var 0), (.bin .add (.var 3) (.lit (.int 1)))])) [(.par [9, 10] [(.call "_law_draw" [(.var 0), (.var 1)]), (.call "_law_draw" [(.var 0), (.var 1)])]), (.set 8 (.call "_law_web_way" [(.var 9), (.var 10), (.call "_law_web_days" [(.var 0), (.var 2)])])), (.ite (.and (.cmp .ne (.var 9) (.var 10)) (.inD true (.sl (.var 8) none (some (.lit (.int 2)))) (.var 7))) [(.setIx (.var 7) (.sl (.var 8) none (some (.lit (.int 2)))) (.var 8))] [])]), (.ret (.tup [(.var 1), (.bi .tupOf [(.svals false (.var 7))])]))]⟩
def t__law_web_rims : Fn := ⟨1, 11, false, [(.par [4, 5] [(.call "_law_draw" [(.var 0), (.lit (.int 8))]), (.bin .add (.lit (.int 1)) (.call "_law_draw" [(.var 0), (.lit (.int 200))]))]), (.ite (.cmp .eq (.var 4) (.lit (.int 0))) [(.ret (.tup [(.lit (.int 1)), (.tup [])]))] []), (.ite (.cmp .eq (.var 4) (.lit (.int 1))) [(.ret (.tup [(.lit (.int 2)), (.tup [(.tup [(.lit (.int 0)), (.lit (.int 1)), (.call "_law_pick" [(.var 0), (.lst false [(.lit (.int 1)), (.var 5), (.lit (.int 200))])])])])]))] []), (.set 1 (.ite (.cmp .lt (.var 4) (.lit (.int 5))) (.call "_law_pick" [(.var 0), (.lst false [(.bin .add (.lit (.int 11)) (.call "_law_draw" [(.var 0), (.lit (.int 30))])), (.lit (.int 40))])]) (.bin .add (.lit (.int 3)) (.call "_law_draw" [(.var 0), (.lit (.int 4))])))), (.ite (.and (.cmp .eq (.var 4) (.lit (.int 5))) (.cmp .eq (.call "_law_draw" [(.var 0), (.lit (.int 3))]) (.lit (.int 0)))) [(.set 1 (.bin .add (.lit (.int 11)) (.call "_law_draw" [(.var 0), (.lit (.int 30))])))] []), (.ite (.cmp .eq (.var 4) (.lit (.int 2))) [(.set 6 (.call "_law_draw" [(.var 0), (.var 1)])), (.set 2 (.comp false [9] (.name 9) (.range1 (.var 1)) (some (.cmp .ne (.var 9) (.var 6))) (.call "_law_web_way" [(.var 6), (.var 9), (.bin .add (.lit (.int 1)) (.bin .mod (.bi .int [(.bin .mul (.var 9) (.var 5))]) (.lit (.int 200))))]))), (.ret (.tup [(.var 1), (.bi .tupOf [(.bi (.sorted false) [(.var 2)])])]))] []), (.ite (.cmp .lt (.var 4) (.lit (.int 5))) [(.ite (.cmp .eq (.var 4) (.lit (.int 4))) [(.ret (.call "_law_web_drawn" [(.var 0), (.var 1), (.lit (.int 200)), (.lit (.int 6))]))] []), (.set 7 (.call "_law_turned" [(.var 0), (.var 1)])), (.set 2 (.comp false [9] (.name 9) (.range2 (.lit (.int 1)) (.var 1)) none (.call "_law_web_way" [(.ix (.var 7) (.var 9)), (.ix (.var 7) (.bin .sub (.var 9) (.lit (.int 1)))), (.bin .add (.lit (.int 1)) (.bin .mod (.bi .int [(.bin .mul (.var 9) (.var 5))]) (.lit (.int 200))))]))), (.ret (.tup [(.var 1), (.bi .tupOf [(.bi (.sorted false) [(.var 2)])])]))] []), (.ite (.cmp .eq (.var 4) (.lit (.int 5))) [(.par [7, 8] [(.call "_law_turned" [(.var 0), (.var 1)]), (.call "_law_pick" [(.var 0), (.lst false [(.var 5), (.lit (.int 1)), (.lit (.int 2))])])]), (.set 2 (.comp false [9] (.name 9) (.range2 (.lit (.int 1)) (.var 1)) none (.call "_law_web_way" [(.ix (.var 7) (.var 9)), (.ix (.var 7) (.bin .sub (.var 9) (.lit (.int 1)))), (.lit (.int 2))]))), (.ret (.tup [(.var 1), (.bi .tupOf [(.bi (.sorted false) [(.bin .add (.var 2) (.lst false [(.call "_law_web_way" [(.ix (.var 7) (.lit (.int 0))), (.ix (.var 7) (.bin .sub (.var 1) (.lit (.int 1)))), (.var 8)])]))])])]))] []), (.set 2 (.lst false [])), (.forS (.name 3) (.range1 (.var 1)) [(.set 2 (.bin .add (.var 2) (.comp false [10] (.name 10) (.range2 (.bin .add (.var 3) (.lit (.int 1))) (.var 1)) none (.tup [(.var 3), (.var 10), (.ite (.cmp .eq (.var 4) (.lit (.int 6))) (.var 5) (.call "_law_web_days" [(.var 0), (.lit (.int 4))]))]))))]), (.ret (.tup [(.var 1), (.bi .tupOf [(.var 2)])]))]⟩
def t__law_web_any : Fn := ⟨3, 3, false, [(.ite (.cmp .eq (.call "_law_draw" [(.var 0), (.lit (.int 6))]) (.lit (.int 0))) [(.ret (.call "_law_web_rims" [(.var 0)]))] []), (.ret (.call "_law_web_drawn" [(.var 0), (.bin .add (.lit (.int 1)) (.call "_law_draw" [(.var 0), (.var 1)])), (.var 2), (.var 1)]))]⟩
def t__law_web_joined : Fn := ⟨2, 10, false, [(.par [2, 3] [(.bi (.rangeList false) [(.var 0)]), (.lst true [])]), (.forS (.tup [4, 5, 6]) (.seq (.var 1)) [(.ite (.cmp .ne (.ix (.var 2) (.var 4)) (.ix (.var 2) (.var 5))) [(.expr (.meth .append (.var 3) [(.tup [(.var 4), (.var 5), (.var 6)])])), (.par [7, 8] [(.ix (.var 2) (.var 4)), (.ix (.var 2) (.var 5))]), (.set 2 (.comp false [9] (.name 9) (.seq (.var 2)) none (.ite (.cmp .eq (.var 9) (.var 7)) (.var 8) (.var 9))))] [])]), (.ret (.var 3))]⟩
def t__law_web_least : Fn := ⟨1, 5, false, [(.set 1 (.bi (.sorted false) [(.comp false [2, 3, 4] (.tup [2, 3, 4]) (.seq (.ix (.var 0) (.lit (.int 1)))) none (.tup [(.var 4), (.var 2), (.var 3)]))])), (.ret (.bi .tupOf [(.bi (.sorted false) [(.call "_law_web_joined" [(.ix (.var 0) (.lit (.int 0))), (.comp false [4, 2, 3] (.tup [4, 2, 3]) (.seq (.var 1)) none (.tup [(.var 2), (.var 3), (.var 4)]))])])]))]⟩
def t__law_web_length : Fn := ⟨1, 4, false, [(.ret (.bi .sum [(.comp false [1, 2, 3] (.tup [1, 2, 3]) (.seq (.var 0)) none (.var 3))]))]⟩
def t__law_web_longest : Fn := ⟨1, 4, false, [(.ret (.bi .maxL [(.bin .add (.lst false [(.lit (.int 0))]) (.comp false [1, 2, 3] (.tup [1, 2, 3]) (.seq (.var 0)) none (.var 3)))]))]⟩
def t__law_term_loans : Fn := ⟨2, 5, false, [(.par [3, 4] [(.bin .add (.lit (.int 1)) (.call "_law_draw" [(.var 0), (.lit (.int 3))])), (.bin .add (.lit (.int 1)) (.call "_law_draw" [(.var 0), (.call "_law_pick" [(.var 0), (.lst false [(.lit (.int 2)), (.lit (.int 3)), (.lit (.int 8))])])]))]), (.ite (.cmp .eq (.call "_law_draw" [(.var 0), (.lit (.int 6))]) (.lit (.int 0))) [(.par [3, 4] [(.call "_law_pick" [(.var 0), (.lst false [(.lit (.int 20)), (.bin .add (.lit (.int 1)) (.call "_law_draw" [(.var 0), (.lit (.int 20))]))])]), (.call "_law_pick" [(.var 0), (.lst false [(.lit (.int 200)), (.bin .add (.lit (.int 1)) (.call "_law_draw" [(.var 0), (.lit (.int 200))]))])])])] []), (.set 2 (.call "_law_web_longest" [(.call "_law_web_least" [(.var 1)])])), (.ret (.tup [(.lit (.str "loans")), (.var 3), (.var 4), (.call "_law_pick" [(.var 0), (.lst false [(.lit (.int 0)), (.var 4), (.bi .min2 [(.var 4), (.var 2)]), (.call "_law_draw" [(.var 0), (.bin .add (.var 4) (.lit (.int 1)))])])])]))]⟩
def t__law_mid_rest : Fn := ⟨3, 3, false, [(.ret (.bin .mul (.var 0) (.bi .max2 [(.lit (.int 0)), (.bin .sub (.var 2) (.var 1))])))]⟩
def t__law_mid_end : Fn := ⟨3, 10, false, [(.unpack [7, 8, 9] (.sl (.var 2) (some (.lit (.int 1))) none)), (.set 3 (.call "_law_web_longest" [(.call "_law_web_least" [(.var 1)])])), (.set 4 (.call "_law_pick" [(.var 0), (.lst false [(.lit (.int 1)), (.lit (.int 200)), (.bin .add (.lit (.int 1)) (.call "_law_draw" [(.var 0), (.lit (.int 12))])), (.bin .add (.lit (.int 1)) (.call "_law_draw" [(.var 0), (.lit (.int 200))]))])])), (.set 5 (.bin .sub (.bin .add (.bin .mul (.var 7) (.var 4)) (.call "_law_mid_rest" [(.var 7), (.var 9), (.bi .max2 [(.var 3), (.var 4)])])) (.call "_law_mid_rest" [(.var 7), (.var 9), (.var 3)]))), (.set 6 (.tup [(.tup [(.call "_law_draw" [(.var 0), (.ix (.var 1) (.lit (.int 0)))]), (.var 4)])])), (.ite (.cmp .ne (.bi .repr [(.call "place_gain" [(.var 1), (.var 2), (.var 6)])]) (.bi .repr [(.var 5)])) [(.ret (.lit (.bool false)))] []), (.ret (.cmp .eq (.bi .repr [(.bin .sub (.call "needed" [(.call "with_place" [(.var 1), (.var 6)]), (.var 2)]) (.call "needed" [(.var 1), (.var 2)]))]) (.bi .repr [(.var 5)])))]⟩
def t__law_mid_middle : Fn := ⟨4, 15, false, [(.set 4 (.bin .add (.lit (.int 1)) (.call "_law_draw" [(.var 0), (.call "_law_pick" [(.var 0), (.lst false [(.lit (.int 2)), (.lit (.int 12))])])]))), (.set 5 (.bin .add (.lit (.int 3)) (.call "_law_draw" [(.var 0), (.lit (.int 4))]))), (.set 6 (.call "_law_web_drawn" [(.var 0), (.var 5), (.lit (.int 6)), (.lit (.int 6))])), (.set 7 (.tup [(.var 5), (.bi .tupOf [(.comp false [12, 13, 14] (.tup [12, 13, 14]) (.seq (.ix (.var 6) (.lit (.int 1)))) none (.tup [(.var 12), (.var 13), (.bin .sub (.bin .add (.bin .mul (.lit (.int 2)) (.var 4)) (.var 14)) (.lit (.int 1)))]))])])), (.set 8 (.call "_law_web_least" [(.var 7)])), (.set 9 (.bin .mul (.var 1) (.bin .sub (.bin .mul (.var 5) (.var 4)) (.call "_law_web_length" [(.var 8)])))), (.set 9 (.bin .sub (.bin .add (.var 9) (.call "_law_mid_rest" [(.var 1), (.var 3), (.var 4)])) (.call "_law_mid_rest" [(.var 1), (.var 3), (.call "_law_web_longest" [(.var 8)])]))), (.set 10 (.call "place_gain" [(.var 7), (.tup [(.lit (.str "loans")), (.var 1), (.var 2), (.var 3)]), (.bi .tupOf [(.comp false [11] (.name 11) (.range1 (.var 5)) none (.tup [(.var 11), (.var 4)]))])])), (.ret (.and (.cmp .lt (.var 9) (.lit (.int 0))) (.cmp .eq (.bi .repr [(.var 10)]) (.bi .repr [(.var 9)]))))]⟩
def t__law_mid_between : Fn := ⟨4, 8, false, [(.set 4 (.bin .add (.lit (.int 1)) (.call "_law_draw" [(.var 0), (.call "_law_pick" [(.var 0), (.lst false [(.lit (.int 3)), (.lit (.int 100))])])]))), (.set 5 (.bin .add (.lit (.int 1)) (.call "_law_draw" [(.var 0), (.call "_law_pick" [(.var 0), (.lst false [(.lit (.int 3)), (.lit (.int 100))])])]))), (.set 6 (.tup [(.lit (.int 2)), (.tup [(.tup [(.lit (.int 0)), (.lit (.int 1)), (.bin .add (.var 4) (.var 5))])])])), (.set 7 (.bin .sub (.call "_law_mid_rest" [(.var 1), (.var 3), (.bi .max2 [(.var 4), (.var 5)])]) (.call "_law_mid_rest" [(.var 1), (.var 3), (.bin .add (.var 4) (.var 5))]))), (.ret (.and (.cmp .le (.var 7) (.lit (.int 0))) (.cmp .eq (.bi .repr [(.call "place_gain" [(.var 6), (.tup [(.lit (.str "loans")), (.var 1), (.var 2), (.var 3)]), (.tup [(.tup [(.lit (.int 0)), (.var 4)]), (.tup [(.lit (.int 1)), (.var 5)])])])]) (.bi .repr [(.var 7)]))))]⟩
def t_law : Fn := ⟨1, 7, false, [(.set 1 (.call "_law_pool" [(.var 0)])), (.set 2 (.call "_law_web_any" [(.var 1), (.lit (.int 7)), (.lit (.int 6))])), (.set 3 (.call "_law_term_loans" [(.var 1), (.var 2)])), (.unpack [4, 5, 6] (.sl (.var 3) (some (.lit (.int 1))) none)), (.ite (.and (.cmp .lt (.ix (.var 2) (.lit (.int 0))) (.lit (.int 40))) (.not (.call "_law_mid_end" [(.var 1), (.var 2), (.var 3)]))) [(.ret (.lit (.bool false)))] []), (.ret (.and (.call "_law_mid_middle" [(.var 1), (.var 4), (.var 5), (.var 6)]) (.call "_law_mid_between" [(.var 1), (.var 4), (.var 5), (.var 6)])))]⟩
end Ev.C
end
section
set_option maxRecDepth 100000
set_option maxHeartbeats 1000000
/-! EvP1: what the functions do: kinds of values. -/
namespace EvP
abbrev Loc := Ev.Loc
open Ev PySem L2 MW
@[simp] theorem getV_z (x : Option DV) (l : Loc) : getV (x :: l) 0 = x := by
  unfold getV
  cases x <;> rfl
@[simp] theorem getV_s (x : Option DV) (l : Loc) (i : Nat) : getV (x :: l) (i + 1) = getV l i := rfl
theorem ite_tru {α : Type} {a b : α} : (if (true = true) then a else b) = a := if_pos rfl
theorem ite_fls {α : Type} {a b : α} : (if (false = true) then a else b) = b := if_neg (by decide)
/-- the store names nothing beyond itself -/
def Cl (S : Sto) : Prop := closedB S.length S = true
theorem Cl.nil : Cl [] := rfl
theorem retv_ok {S : Sto} (h : Cl S) (x : PyData) : outF false S.length (.ret (.d x) S) = .ok (.d x) S := by
  unfold Cl at h
  simp [outF, handBack, h]
theorem next_ok {S : Sto} (h : Cl S) (l : Loc) : outF false S.length (.next l S) = .ok (.d .none) S := by
  unfold Cl at h
  simp [outF, h]
/-- what is handed back from a store with things of the function's own -/
theorem retv_own {S R : Sto} (h : Cl S) (x : PyData) : outF false S.length (.ret (.d x) (S ++ R)) = .ok (.d x) S := by
  unfold Cl at h
  simp [outF, handBack, h]
theorem retl_own {S R : Sto} {i : Nat} {xs : List PyData} (h : Cl S) (hi : R[i]? = some (.lst xs)) : outF false S.length (.ret (.ref (S.length + i)) (S ++ R)) = .ok (.d (.list xs)) S := by
  unfold Cl at h
  have e : (S ++ R)[S.length + i]? = some (OB.lst xs) := by rw [List.getElem?_append_right (by omega)]; simpa using hi
  have nl : ¬ S.length + i < S.length := by omega
  simp only [outF, handBack, List.take_left', if_neg nl, e, h]
  simp
structure TW (T : String → Option Fn) : Prop where
  is_number : T "is_number" = some C.t_is_number
  is_within : T "is_within" = some C.t_is_within
  is_numbers : T "is_numbers" = some C.t_is_numbers
  joined : T "joined" = some C.t_joined
  labels_of : T "labels_of" = some C.t_labels_of
  check_together : T "check_together" = some C.t_check_together
  made_web : T "made_web" = some C.t_made_web
  check_ways : T "_check_ways" = some C.t__check_ways
/-! ### loops -/
theorem still_none {xs : List PyData} {S : Sto} : still ⟨xs, none⟩ S = true := rfl
/-- a loop whose body goes on, by what holds ahead of each turn -/
theorem for_ok {w : Items} {f : PyData → Loc → Sto → SRes} (I : List PyData → Loc → Sto → Prop) (h : ∀ x r l S, I (x :: r) l S → ∃ l1 S1, f x l S = .next l1 S1 ∧ still w S1 = true ∧ I r l1 S1) :
    ∀ xs l S, I xs l S → ∃ l' S', forLoop w f xs l S = .next l' S' ∧ I [] l' S'
  | [], l, S, q => ⟨l, S, rfl, q⟩
  | x :: r, l, S, q => by
    obtain ⟨l1, S1, e, s, q1⟩ := h x r l S q
    obtain ⟨l', S', e', q'⟩ := for_ok I h r l1 S1 q1
    refine ⟨l', S', ?_, q'⟩
    unfold forLoop
    rw [e]
    dsimp only
    rw [if_pos s]
    exact e'
/-- a loop, and what is behind it -/
theorem for_then {w : Items} {f : PyData → Loc → Sto → SRes} {g : Loc → Sto → SRes} {xs : List PyData} {l : Loc} {S : Sto} {P : SRes → Prop} (I : List PyData → Loc → Sto → Prop) (h0 : I xs l S)
    (h : ∀ x r l S, I (x :: r) l S → ∃ l1 S1, f x l S = .next l1 S1 ∧ still w S1 = true ∧ I r l1 S1) (he : ∀ l S, I [] l S → P (g l S)) : P ((forLoop w f xs l S).seq g) := by
  obtain ⟨l', S', e, q⟩ := for_ok I h xs l S h0
  rw [e]
  exact he l' S' q
/-- a list, item by item -/
theorem comp_map {w : Items} {f : PyData → Sto → Res (Option PyData)} {g : PyData → PyData} {S : Sto} (hw : w.src = none) : ∀ {xs acc : List PyData}, (∀ x, x ∈ xs → f x S = .ok (some (g x)) S) → compLoop w f xs acc S = .ok (acc ++ xs.map g) S
  | [], acc, _ => by simp [compLoop]
  | x :: r, acc, h => by
    unfold compLoop
    rw [h x (List.mem_cons_self ..)]
    have st : still w S = true := by unfold still; rw [hw]
    simp only [Res.bind_ok, if_pos st, pushO]
    rw [comp_map hw fun y m => h y (List.mem_cons_of_mem _ m)]
    simp
/-- how ways stand in the program -/
def wy (w : Wy) : PyData := .tuple [.int w.1, .int w.2.1, .int w.2.2]
def wys (l : List Wy) : List PyData := l.map wy
def web (n : Nat) (l : List Wy) : PyData := .tuple [.int n, .tuple (wys l)]
def nats (L : List Nat) : List PyData := L.map fun (x : Nat) => .int (x : Int)
theorem nats_len {L : List Nat} : (nats L).length = L.length := by simp [nats]
theorem wys_len {l : List Wy} : (wys l).length = l.length := by simp [wys]
theorem atI_nat {α : Type} {xs : List α} {i : Nat} {x : α} (h : xs[i]? = some x) : atI xs (i : Int) = some x := by
  have hi : i < xs.length := by
    by_cases c : i < xs.length
    · exact c
    · rw [List.getElem?_eq_none (by omega)] at h; cases h
  unfold atI ixN
  rw [if_pos (by omega), if_pos (by omega)]
  simp [h]
theorem ix_nats {L : List Nat} {i : Nat} (h : i < L.length) : ixP (.list (nats L)) (.int (i : Int)) = some (.int (L.getD i 0 : Nat)) := by
  show atI (nats L) (i : Int) = _
  refine atI_nat ?_
  unfold nats
  rw [List.getElem?_map, List.getElem?_eq_getElem h, getD_lt h]
  rfl
theorem rangeP_nat (n : Nat) : rangeP 0 (n : Int) = nats (List.range n) := by
  unfold rangeP nats
  simp
theorem min_i (a b : Nat) : (if (b : Int) < a then (b : Int) else a) = ((min a b : Nat) : Int) := by
  split <;> omega
theorem max_i (a b : Nat) : (if (b : Int) > a then (b : Int) else a) = ((max a b : Nat) : Int) := by
  split <;> omega
theorem eq_i (a b : Int) : cmpP .eq (.int a) (.int b) = some (decide (a = b)) := by
  show (if SeqAt.shaped (.int a) = true ∧ SeqAt.shaped (.int b) = true then some (PyData.eqv (.int a) (.int b)) else none) = _
  rw [if_pos ⟨rfl, rfl⟩]
  simp [PyData.eqv]
  by_cases h : a = b <;> simp [h]
theorem ne_i (a b : Int) : cmpP .ne (.int a) (.int b) = some (!decide (a = b)) := by
  show (if SeqAt.shaped (.int a) = true ∧ SeqAt.shaped (.int b) = true then some (!PyData.eqv (.int a) (.int b)) else none) = _
  rw [if_pos ⟨rfl, rfl⟩]
  simp [PyData.eqv]
  by_cases h : a = b <;> simp [h]
theorem le_i (a b : Int) : cmpP .le (.int a) (.int b) = some (decide (a ≤ b)) := rfl
theorem lt_i (a b : Int) : cmpP .lt (.int a) (.int b) = some (decide (a < b)) := rfl
theorem gt_i (a b : Int) : cmpP .gt (.int a) (.int b) = some (decide (b < a)) := rfl
theorem ge_i (a b : Int) : cmpP .ge (.int a) (.int b) = some (decide (b ≤ a)) := rfl
theorem add_i (a b : Int) : binP .add (.int a) (.int b) = some (.int (a + b)) := rfl
theorem sub_i (a b : Int) : binP .sub (.int a) (.int b) = some (.int (a - b)) := rfl
def binD0 (o : Bin) (x y : DV) (S : Sto) : Res DV := ofO ((asP S x).bind fun p => (asP S y).bind fun q => (binP o p q).map .d) S
theorem binD_is : ∃ f : Bin → DV → DV → Sto → Res DV, f = binD0 := ⟨_, rfl⟩
/-- the same, which no reckoning opens -/
noncomputable def binD : Bin → DV → DV → Sto → Res DV := Classical.choose binD_is
theorem binD_eq : binD = binD0 := Classical.choose_spec binD_is
theorem evalE_mul {C : Calls} {a b : ME} {l : Loc} {S : Sto} : evalE C (.bin .mul a b) l S = (evalE C a l S).bind fun x S1 => (evalE C b l S1).bind fun y S2 => binD .mul x y S2 := by rw [evalE, binD_eq]; rfl
theorem evalE_mod {C : Calls} {a b : ME} {l : Loc} {S : Sto} : evalE C (.bin .mod a b) l S = (evalE C a l S).bind fun x S1 => (evalE C b l S1).bind fun y S2 => binD .mod x y S2 := by rw [evalE, binD_eq]; rfl
theorem evalE_fdiv {C : Calls} {a b : ME} {l : Loc} {S : Sto} : evalE C (.bin .fdiv a b) l S = (evalE C a l S).bind fun x S1 => (evalE C b l S1).bind fun y S2 => binD .fdiv x y S2 := by rw [evalE, binD_eq]; rfl
theorem evalE_pow {C : Calls} {a b : ME} {l : Loc} {S : Sto} : evalE C (.bin .pow a b) l S = (evalE C a l S).bind fun x S1 => (evalE C b l S1).bind fun y S2 => binD .pow x y S2 := by rw [evalE, binD_eq]; rfl
/-- far below the bounds of a product -/
def Sm (a : Int) : Prop := -(2 ^ 64) < a ∧ a < 2 ^ 64
theorem Sm.of {a : Int} (h : -1000000000000 ≤ a) (h2 : a ≤ 1000000000000) : Sm a := by
  have e : (2 : Int) ^ 64 = 18446744073709551616 := by decide +kernel
  unfold Sm; rw [e]; exact ⟨by omega, by omega⟩
theorem mul_l {a : Int} (h : Sm a) (b : Int) (S : Sto) : binD .mul (.d (.int a)) (.d (.int b)) S = .ok (.d (.int (a * b))) S := by
  have e : binP .mul (.int a) (.int b) = some (.int (a * b)) := if_pos (.inl h)
  rw [binD_eq]; unfold binD0
  rw [asP_d, asP_d, Option.bind_some, Option.bind_some, e]; rfl
theorem mul_r {b : Int} (h : Sm b) (a : Int) (S : Sto) : binD .mul (.d (.int a)) (.d (.int b)) S = .ok (.d (.int (a * b))) S := by
  have e : binP .mul (.int a) (.int b) = some (.int (a * b)) := if_pos (.inr h)
  rw [binD_eq]; unfold binD0
  rw [asP_d, asP_d, Option.bind_some, Option.bind_some, e]; rfl
theorem mod_i {b : Int} (h : b ≠ 0) (a : Int) (S : Sto) : binD .mod (.d (.int a)) (.d (.int b)) S = .ok (.d (.int (a.fmod b))) S := by
  have e : binP .mod (.int a) (.int b) = some (.int (a.fmod b)) := if_pos h
  rw [binD_eq]; unfold binD0
  rw [asP_d, asP_d, Option.bind_some, Option.bind_some, e]; rfl
theorem fdiv_i {b : Int} (h : b ≠ 0) (h2 : b.natAbs < 1073741824) (a : Int) (S : Sto) : binD .fdiv (.d (.int a)) (.d (.int b)) S = .ok (.d (.int (a.fdiv b))) S := by
  have e : binP .fdiv (.int a) (.int b) = some (.int (a.fdiv b)) := if_pos ⟨h, h2⟩
  rw [binD_eq]; unfold binD0
  rw [asP_d, asP_d, Option.bind_some, Option.bind_some, e]; rfl
def popD0 (x : DV) (vs : List DV) (S : Sto) : Res DV := methP .popAt x vs S
theorem popD_is : ∃ f : DV → List DV → Sto → Res DV, f = popD0 := ⟨_, rfl⟩
noncomputable def popD : DV → List DV → Sto → Res DV := Classical.choose popD_is
theorem popD_eq : popD = popD0 := Classical.choose_spec popD_is
theorem evalE_popAt {C : Calls} {o : ME} {es : List ME} {l : Loc} {S : Sto} : evalE C (.meth .popAt o es) l S = (evalE C o l S).bind fun x S1 => if recv x S1 = true then (evalEs C es l S1).bind fun vs S2 => popD x vs S2 else .stuck := by rw [evalE, popD_eq]; rfl
theorem popD_i {S : Sto} {i : Nat} {xs : List PyData} {v : Nat} {x : PyData} (hl : lstAt S i = some xs) (hx : xs[v]? = some x) (hv : v < 1000000) : popD (.ref i) [.d (.int (v : Nat))] S = .ok (.d x) (S.set i (.lst (xs.eraseIdx v))) := by
  rw [popD_eq]
  have e : (0 : Int) ≤ (v : Int) ∧ (v : Int) < 2 ^ 63 := by omega
  simp only [popD0, methP, hl, mPopAt, Int.toNat_natCast, hx]
  rw [if_pos e]
def rg1D0 (v : DV) (S : Sto) : Res Items := match v with
    | .d (.int i) => if -(2 ^ 62) ≤ i ∧ i < (LIM : Int) then .ok ⟨rangeP 0 i, none⟩ S else .stuck
    | _ => .stuck
theorem rg1D_is : ∃ f : DV → Sto → Res Items, f = rg1D0 := ⟨_, rfl⟩
noncomputable def rg1D : DV → Sto → Res Items := Classical.choose rg1D_is
theorem rg1D_eq : rg1D = rg1D0 := Classical.choose_spec rg1D_is
theorem evalI_range1 {C : Calls} {a : ME} {l : Loc} {S : Sto} : evalI C (.range1 a) l S = (evalE C a l S).bind fun v S1 => rg1D v S1 := by rw [evalI, rg1D_eq]; rfl
theorem rg1_i {n : Nat} (h : n ≤ 1000) (S : Sto) : rg1D (.d (.int (n : Nat))) S = .ok ⟨rangeP 0 (n : Nat), none⟩ S := by
  rw [rg1D_eq]
  have e : -(2 ^ 62) ≤ (n : Int) ∧ (n : Int) < (LIM : Int) := by unfold LIM; omega
  simp only [rg1D0]
  rw [if_pos e]
def rg2D0 (v w : DV) (S : Sto) : Res Items := match v, w with
    | .d (.int i), .d (.int j) => if (-(2 ^ 62) ≤ i ∧ i < 2 ^ 62) ∧ (-(2 ^ 62) ≤ j ∧ j < 2 ^ 62) ∧ j - i < (LIM : Int) then .ok ⟨rangeP i j, none⟩ S else .stuck
    | _, _ => .stuck
theorem rg2D_is : ∃ f : DV → DV → Sto → Res Items, f = rg2D0 := ⟨_, rfl⟩
noncomputable def rg2D : DV → DV → Sto → Res Items := Classical.choose rg2D_is
theorem rg2D_eq : rg2D = rg2D0 := Classical.choose_spec rg2D_is
theorem evalI_range2 {C : Calls} {a b : ME} {l : Loc} {S : Sto} : evalI C (.range2 a b) l S = (evalE C a l S).bind fun v S1 => (evalE C b l S1).bind fun w S2 => rg2D v w S2 := by rw [evalI, rg2D_eq]; rfl
theorem rg2_i {m n : Nat} (h : m ≤ 1000) (h2 : n ≤ 1000) (S : Sto) : rg2D (.d (.int (m : Nat))) (.d (.int (n : Nat))) S = .ok ⟨rangeP (m : Nat) (n : Nat), none⟩ S := by
  rw [rg2D_eq]
  have e : (-(2 ^ 62) ≤ (m : Int) ∧ (m : Int) < 2 ^ 62) ∧ (-(2 ^ 62) ≤ (n : Int) ∧ (n : Int) < 2 ^ 62) ∧ (n : Int) - (m : Int) < (LIM : Int) := by unfold LIM; omega
  simp only [rg2D0]
  rw [if_pos e]
theorem seqP_t (xs : List PyData) : seqP (.tuple xs) = some xs := rfl
theorem seqP_l (xs : List PyData) : seqP (.list xs) = some xs := rfl
theorem isi_int (i : Int) : isiP "int" (.int i) = some true := rfl
theorem isi_bool (i : Int) : isiP "bool" (.int i) = some false := rfl
theorem isi_tup (xs : List PyData) : isiP "tuple" (.tuple xs) = some true := rfl
variable {T : String → Option Fn} {wn : Nat} {S : Sto} (t : TW T)
include t
theorem is_number_i (hS : Cl S) (d : Nat) (i : Int) : callF T wn (d + 1) "is_number" [.d (.int i)] S = .ok (.d (.bool true)) S := by
  rw [callF_eq t.is_number rfl, C.t_is_number]
  simp only [startL, List.map_cons, List.map_nil, List.length_cons, List.length_nil, List.replicate, List.replicate_succ, List.replicate_zero, List.cons_append, List.nil_append, List.append_nil, Nat.reduceAdd, Nat.reduceSub, Nat.zero_add, ↓evalE_popAt, ↓evalI_range1, ↓evalI_range2, ↓evalE_mul, ↓evalE_mod, ↓evalE_fdiv, ↓evalE_pow, evalSs, evalS, evalE, evalEs, evalT, evalI, evalO, evalC, SRes.seq_next, SRes.seq_ret, SRes.seq_err, SRes.seq_brk, SRes.seq_cnt, SRes.seq_stuck, Res.bind_ok, Res.bind_err, Res.bind_stuck, Res.st_ok, Res.st_err, Res.st_stuck, ofO_some, ofO_none, asP_d, getV_z, getV_s, Option.bind_some, Option.map_some, Option.bind_none, Option.map_none, biP, on1, ints2, unD, mkL_f, mkL_t, plain_d, truthP, List.set_cons_zero, List.set_cons_succ, ofOS, unpackV, setAll, setAllD, bindT, ite_tru, ite_fls, if_true, if_false, reduceIte, Bool.false_eq_true, Bool.not_true, Bool.not_false, retv_ok, isi_int, isi_bool, isi_tup, bLen, seqV, seqP_t, seqP_l, lstP, intsV, eq_i, ne_i, le_i, lt_i, gt_i, ge_i, add_i, sub_i, itemsOf, enumOf, Int.cast_ofNat_Int, Int.natCast_one, List.length_map, Int.reduceEq, Int.reduceLT, Int.reduceLE, retv_ok hS]
theorem is_within_i (hS : Cl S) (d : Nat) (i a b : Int) : callF T wn (d + 2) "is_within" [.d (.int i), .d (.int a), .d (.int b)] S = .ok (.d (.bool (decide (a ≤ i ∧ i ≤ b)))) S := by
  rw [callF_eq t.is_within rfl, C.t_is_within]
  simp only [startL, List.map_cons, List.map_nil, List.length_cons, List.length_nil, List.replicate, List.replicate_succ, List.replicate_zero, List.cons_append, List.nil_append, List.append_nil, Nat.reduceAdd, Nat.reduceSub, Nat.zero_add, ↓evalE_popAt, ↓evalI_range1, ↓evalI_range2, ↓evalE_mul, ↓evalE_mod, ↓evalE_fdiv, ↓evalE_pow, evalSs, evalS, evalE, evalEs, evalT, evalI, evalO, evalC, SRes.seq_next, SRes.seq_ret, SRes.seq_err, SRes.seq_brk, SRes.seq_cnt, SRes.seq_stuck, Res.bind_ok, Res.bind_err, Res.bind_stuck, Res.st_ok, Res.st_err, Res.st_stuck, ofO_some, ofO_none, asP_d, getV_z, getV_s, Option.bind_some, Option.map_some, Option.bind_none, Option.map_none, biP, on1, ints2, unD, mkL_f, mkL_t, plain_d, truthP, List.set_cons_zero, List.set_cons_succ, ofOS, unpackV, setAll, setAllD, bindT, ite_tru, ite_fls, if_true, if_false, reduceIte, Bool.false_eq_true, Bool.not_true, Bool.not_false, retv_ok, is_number_i t hS, cmpP]
  by_cases h : a ≤ i <;> by_cases h' : i ≤ b <;> simp [h, h', retv_ok hS]
theorem is_place_i (hP : T "is_place" = some C.t_is_place) (hS : Cl S) (d : Nat) (n i : Int) : callF T wn (d + 3) "is_place" [.d (.int n), .d (.int i)] S = .ok (.d (.bool (decide (0 ≤ i ∧ i ≤ n - 1)))) S := by
  rw [callF_eq hP rfl, C.t_is_place]
  simp only [startL, List.map_cons, List.map_nil, List.length_cons, List.length_nil, List.replicate, List.replicate_succ, List.replicate_zero, List.cons_append, List.nil_append, List.append_nil, Nat.reduceAdd, Nat.reduceSub, Nat.zero_add, ↓evalE_popAt, ↓evalI_range1, ↓evalI_range2, ↓evalE_mul, ↓evalE_mod, ↓evalE_fdiv, ↓evalE_pow, evalSs, evalS, evalE, evalEs, evalT, evalI, evalO, evalC, SRes.seq_next, SRes.seq_ret, SRes.seq_err, SRes.seq_brk, SRes.seq_cnt, SRes.seq_stuck, Res.bind_ok, Res.bind_err, Res.bind_stuck, Res.st_ok, Res.st_err, Res.st_stuck, ofO_some, ofO_none, asP_d, getV_z, getV_s, Option.bind_some, Option.map_some, Option.bind_none, Option.map_none, biP, on1, ints2, unD, mkL_f, mkL_t, plain_d, truthP, List.set_cons_zero, List.set_cons_succ, ofOS, unpackV, setAll, setAllD, bindT, ite_tru, ite_fls, if_true, if_false, reduceIte, Bool.false_eq_true, Bool.not_true, Bool.not_false, retv_ok, isi_int, isi_bool, isi_tup, bLen, seqV, seqP_t, seqP_l, lstP, intsV, eq_i, ne_i, le_i, lt_i, gt_i, ge_i, add_i, sub_i, itemsOf, enumOf, Int.cast_ofNat_Int, Int.natCast_one, List.length_map, Int.reduceEq, Int.reduceLT, Int.reduceLE, is_within_i t hS, retv_ok hS]
theorem is_numbers_i (hS : Cl S) (d : Nat) (is : List Int) : callF T wn (d + 1) "is_numbers" [.d (.tuple (is.map .int)), .d (.int is.length)] S = .ok (.d (.bool true)) S := by
  rw [callF_eq t.is_numbers rfl, C.t_is_numbers]
  simp only [startL, List.map_cons, List.map_nil, List.length_cons, List.length_nil, List.replicate, List.replicate_succ, List.replicate_zero, List.cons_append, List.nil_append, List.append_nil, Nat.reduceAdd, Nat.reduceSub, Nat.zero_add, ↓evalE_popAt, ↓evalI_range1, ↓evalI_range2, ↓evalE_mul, ↓evalE_mod, ↓evalE_fdiv, ↓evalE_pow, evalSs, evalS, evalE, evalEs, evalT, evalI, evalO, evalC, SRes.seq_next, SRes.seq_ret, SRes.seq_err, SRes.seq_brk, SRes.seq_cnt, SRes.seq_stuck, Res.bind_ok, Res.bind_err, Res.bind_stuck, Res.st_ok, Res.st_err, Res.st_stuck, ofO_some, ofO_none, asP_d, getV_z, getV_s, Option.bind_some, Option.map_some, Option.bind_none, Option.map_none, biP, on1, ints2, unD, mkL_f, mkL_t, plain_d, truthP, List.set_cons_zero, List.set_cons_succ, ofOS, unpackV, setAll, setAllD, bindT, ite_tru, ite_fls, if_true, if_false, reduceIte, Bool.false_eq_true, Bool.not_true, Bool.not_false, retv_ok, isi_int, isi_bool, isi_tup, bLen, seqV, seqP_t, seqP_l, lstP, intsV, eq_i, ne_i, le_i, lt_i, gt_i, ge_i, add_i, sub_i, itemsOf, enumOf, Int.cast_ofNat_Int, Int.natCast_one, List.length_map, Int.reduceEq, Int.reduceLT, Int.reduceLE, List.length_map]
  simp only [decide_true, Bool.not_true, ↓evalE_popAt, ↓evalI_range1, ↓evalI_range2, ↓evalE_mul, ↓evalE_mod, ↓evalE_fdiv, ↓evalE_pow, evalSs, evalS, evalE, evalEs, evalT, evalI, evalO, evalC, SRes.seq_next, SRes.seq_ret, SRes.seq_err, SRes.seq_brk, SRes.seq_cnt, SRes.seq_stuck, Res.bind_ok, Res.bind_err, Res.bind_stuck, Res.st_ok, Res.st_err, Res.st_stuck, ofO_some, ofO_none, asP_d, getV_z, getV_s, Option.bind_some, Option.map_some, Option.bind_none, Option.map_none, biP, on1, ints2, unD, mkL_f, mkL_t, plain_d, truthP, List.set_cons_zero, List.set_cons_succ, ofOS, unpackV, setAll, setAllD, bindT, ite_tru, ite_fls, if_true, if_false, reduceIte, Bool.false_eq_true, Bool.not_true, Bool.not_false, retv_ok]
  refine for_then (P := fun r => outF false S.length r = _) (fun xs l S1 => ∃ (r : List Int) (j : Option DV), xs = r.map .int ∧ l = [some (.d (.tuple (is.map .int))), some (.d (.int is.length)), j] ∧ S1 = S) ⟨is, none, rfl, rfl, rfl⟩ ?_ ?_
  · rintro x r l S1 ⟨r', j, e1, e2, e3⟩
    cases r' with
    | nil => cases e1
    | cons y r' =>
      cases e1
      rw [e2, e3]
      refine ⟨_, _, ?_, rfl, r', some (.d (.int y)), rfl, rfl, rfl⟩
      simp only [forF, startL, List.map_cons, List.map_nil, List.length_cons, List.length_nil, List.replicate, List.replicate_succ, List.replicate_zero, List.cons_append, List.nil_append, List.append_nil, Nat.reduceAdd, Nat.reduceSub, Nat.zero_add, ↓evalE_popAt, ↓evalI_range1, ↓evalI_range2, ↓evalE_mul, ↓evalE_mod, ↓evalE_fdiv, ↓evalE_pow, evalSs, evalS, evalE, evalEs, evalT, evalI, evalO, evalC, SRes.seq_next, SRes.seq_ret, SRes.seq_err, SRes.seq_brk, SRes.seq_cnt, SRes.seq_stuck, Res.bind_ok, Res.bind_err, Res.bind_stuck, Res.st_ok, Res.st_err, Res.st_stuck, ofO_some, ofO_none, asP_d, getV_z, getV_s, Option.bind_some, Option.map_some, Option.bind_none, Option.map_none, biP, on1, ints2, unD, mkL_f, mkL_t, plain_d, truthP, List.set_cons_zero, List.set_cons_succ, ofOS, unpackV, setAll, setAllD, bindT, ite_tru, ite_fls, if_true, if_false, reduceIte, Bool.false_eq_true, Bool.not_true, Bool.not_false, retv_ok, isi_int, isi_bool, isi_tup, bLen, seqV, seqP_t, seqP_l, lstP, intsV, eq_i, ne_i, le_i, lt_i, gt_i, ge_i, add_i, sub_i, itemsOf, enumOf, Int.cast_ofNat_Int, Int.natCast_one, List.length_map, Int.reduceEq, Int.reduceLT, Int.reduceLE]
  · rintro l S1 ⟨r', j, e1, e2, e3⟩
    rw [e3]
    simp only [↓evalE_popAt, ↓evalI_range1, ↓evalI_range2, ↓evalE_mul, ↓evalE_mod, ↓evalE_fdiv, ↓evalE_pow, evalSs, evalS, evalE, evalEs, evalT, evalI, evalO, evalC, SRes.seq_next, SRes.seq_ret, SRes.seq_err, SRes.seq_brk, SRes.seq_cnt, SRes.seq_stuck, Res.bind_ok, Res.bind_err, Res.bind_stuck, Res.st_ok, Res.st_err, Res.st_stuck, ofO_some, ofO_none, asP_d, getV_z, getV_s, Option.bind_some, Option.map_some, Option.bind_none, Option.map_none, biP, on1, ints2, unD, mkL_f, mkL_t, plain_d, truthP, List.set_cons_zero, List.set_cons_succ, ofOS, unpackV, setAll, setAllD, bindT, ite_tru, ite_fls, if_true, if_false, reduceIte, Bool.false_eq_true, Bool.not_true, Bool.not_false, retv_ok, retv_ok hS]
theorem is_numbers_3 (hS : Cl S) (d : Nat) (a b c : Int) : callF T wn (d + 1) "is_numbers" [.d (.tuple [.int a, .int b, .int c]), .d (.int 3)] S = .ok (.d (.bool true)) S := is_numbers_i t hS d [a, b, c]
theorem is_numbers_2 (hS : Cl S) (d : Nat) (a b : Int) : callF T wn (d + 1) "is_numbers" [.d (.tuple [.int a, .int b]), .d (.int 2)] S = .ok (.d (.bool true)) S := is_numbers_i t hS d [a, b]
theorem joined_i (hS : Cl S) (d : Nat) {L : List Nat} {u v : Nat} (hu : u < L.length) (hv : v < L.length) (hl : L.length ≤ LIM) :
    callF T wn (d + 1) "joined" [.d (.list (nats L)), .d (.int u), .d (.int v)] S = .ok (.d (.list (nats (L.map (low (L.getD u 0) (L.getD v 0)))))) S := by
  rw [callF_eq t.joined rfl, C.t_joined]
  simp only [startL, List.map_cons, List.map_nil, List.length_cons, List.length_nil, List.replicate, List.replicate_succ, List.replicate_zero, List.cons_append, List.nil_append, List.append_nil, Nat.reduceAdd, Nat.reduceSub, Nat.zero_add, ↓evalE_popAt, ↓evalI_range1, ↓evalI_range2, ↓evalE_mul, ↓evalE_mod, ↓evalE_fdiv, ↓evalE_pow, evalSs, evalS, evalE, evalEs, evalT, evalI, evalO, evalC, SRes.seq_next, SRes.seq_ret, SRes.seq_err, SRes.seq_brk, SRes.seq_cnt, SRes.seq_stuck, Res.bind_ok, Res.bind_err, Res.bind_stuck, Res.st_ok, Res.st_err, Res.st_stuck, ofO_some, ofO_none, asP_d, getV_z, getV_s, Option.bind_some, Option.map_some, Option.bind_none, Option.map_none, biP, on1, ints2, unD, mkL_f, mkL_t, plain_d, truthP, List.set_cons_zero, List.set_cons_succ, ofOS, unpackV, setAll, setAllD, bindT, ite_tru, ite_fls, if_true, if_false, reduceIte, Bool.false_eq_true, Bool.not_true, Bool.not_false, retv_ok, ix_nats hu, ix_nats hv, min_i, max_i, itemsOf, nats_len, if_pos hl, seqP_l]
  rw [comp_map (g := fun x => match x with
    | .int i => .int (if i = (max (L.getD u 0) (L.getD v 0) : Nat) then ((min (L.getD u 0) (L.getD v 0) : Nat) : Int) else i)
    | y => y) rfl]
  · simp only [noErr_ok, ↓evalE_popAt, ↓evalI_range1, ↓evalI_range2, ↓evalE_mul, ↓evalE_mod, ↓evalE_fdiv, ↓evalE_pow, evalSs, evalS, evalE, evalEs, evalT, evalI, evalO, evalC, SRes.seq_next, SRes.seq_ret, SRes.seq_err, SRes.seq_brk, SRes.seq_cnt, SRes.seq_stuck, Res.bind_ok, Res.bind_err, Res.bind_stuck, Res.st_ok, Res.st_err, Res.st_stuck, ofO_some, ofO_none, asP_d, getV_z, getV_s, Option.bind_some, Option.map_some, Option.bind_none, Option.map_none, biP, on1, ints2, unD, mkL_f, mkL_t, plain_d, truthP, List.set_cons_zero, List.set_cons_succ, ofOS, unpackV, setAll, setAllD, bindT, ite_tru, ite_fls, if_true, if_false, reduceIte, Bool.false_eq_true, Bool.not_true, Bool.not_false, retv_ok, retv_ok hS]
    simp only [nats, List.map_map, List.nil_append]
    congr 4
    funext x
    simp only [Function.comp, low]
    congr 1
    split <;> split <;> omega
  · intro x hx
    obtain ⟨y, _, rfl⟩ := List.mem_map.mp hx
    simp only [compF, wipeL, ↓evalE_popAt, ↓evalI_range1, ↓evalI_range2, ↓evalE_mul, ↓evalE_mod, ↓evalE_fdiv, ↓evalE_pow, evalSs, evalS, evalE, evalEs, evalT, evalI, evalO, evalC, SRes.seq_next, SRes.seq_ret, SRes.seq_err, SRes.seq_brk, SRes.seq_cnt, SRes.seq_stuck, Res.bind_ok, Res.bind_err, Res.bind_stuck, Res.st_ok, Res.st_err, Res.st_stuck, ofO_some, ofO_none, asP_d, getV_z, getV_s, Option.bind_some, Option.map_some, Option.bind_none, Option.map_none, biP, on1, ints2, unD, mkL_f, mkL_t, plain_d, truthP, List.set_cons_zero, List.set_cons_succ, ofOS, unpackV, setAll, setAllD, bindT, ite_tru, ite_fls, if_true, if_false, reduceIte, Bool.false_eq_true, Bool.not_true, Bool.not_false, retv_ok, eq_i]
    by_cases c : (y : Int) = (max (L.getD u 0) (L.getD v 0) : Nat)
    · simp only [c, decide_true, ↓evalE_popAt, ↓evalI_range1, ↓evalI_range2, ↓evalE_mul, ↓evalE_mod, ↓evalE_fdiv, ↓evalE_pow, evalSs, evalS, evalE, evalEs, evalT, evalI, evalO, evalC, SRes.seq_next, SRes.seq_ret, SRes.seq_err, SRes.seq_brk, SRes.seq_cnt, SRes.seq_stuck, Res.bind_ok, Res.bind_err, Res.bind_stuck, Res.st_ok, Res.st_err, Res.st_stuck, ofO_some, ofO_none, asP_d, getV_z, getV_s, Option.bind_some, Option.map_some, Option.bind_none, Option.map_none, biP, on1, ints2, unD, mkL_f, mkL_t, plain_d, truthP, List.set_cons_zero, List.set_cons_succ, ofOS, unpackV, setAll, setAllD, bindT, ite_tru, ite_fls, if_true, if_false, reduceIte, Bool.false_eq_true, Bool.not_true, Bool.not_false, retv_ok]
    · simp only [c, decide_false, ↓evalE_popAt, ↓evalI_range1, ↓evalI_range2, ↓evalE_mul, ↓evalE_mod, ↓evalE_fdiv, ↓evalE_pow, evalSs, evalS, evalE, evalEs, evalT, evalI, evalO, evalC, SRes.seq_next, SRes.seq_ret, SRes.seq_err, SRes.seq_brk, SRes.seq_cnt, SRes.seq_stuck, Res.bind_ok, Res.bind_err, Res.bind_stuck, Res.st_ok, Res.st_err, Res.st_stuck, ofO_some, ofO_none, asP_d, getV_z, getV_s, Option.bind_some, Option.map_some, Option.bind_none, Option.map_none, biP, on1, ints2, unD, mkL_f, mkL_t, plain_d, truthP, List.set_cons_zero, List.set_cons_succ, ofOS, unpackV, setAll, setAllD, bindT, ite_tru, ite_fls, if_true, if_false, reduceIte, Bool.false_eq_true, Bool.not_true, Bool.not_false, retv_ok]
end EvP
end
section
set_option maxRecDepth 100000
set_option maxHeartbeats 1000000
/-! EvP2: webs, as they are judged. -/
namespace EvP
open Ev PySem L2 MW
theorem intsOf_map : ∀ is : List Int, intsOf (is.map .int) = some is
  | [] => rfl
  | i :: r => by
    show (intsOf (r.map .int)).map (i :: ·) = _
    rw [intsOf_map r]; rfl
variable {T : String → Option Fn} {wn : Nat} {S : Sto} (t : TW T)
include t
theorem labels_i (hS : Cl S) (d : Nat) {n : Nat} {ls : List Wy} (hb : Below n ls) (hn : n ≤ 1000) (sq : List PyData → PyData) (hsq : sq = .tuple ∨ sq = .list) :
    callF T wn (d + 2) "labels_of" [.d (.int n), .d (sq (wys ls))] S = .ok (.d (.list (nats (labs low (List.range n) ls)))) S := by
  have hq : itemsOf S (.d (sq (wys ls))) = some ⟨wys ls, none⟩ := by rcases hsq with e | e <;> rw [e] <;> rfl
  have hr : (n : Int) ≤ (LIM : Int) ∧ -(2 ^ 62) ≤ (n : Int) := by unfold LIM; omega
  rw [callF_eq t.labels_of rfl, C.t_labels_of]
  simp only [startL, List.map_cons, List.map_nil, List.length_cons, List.length_nil, List.replicate, List.replicate_succ, List.replicate_zero, List.cons_append, List.nil_append, List.append_nil, Nat.reduceAdd, Nat.reduceSub, Nat.zero_add, ↓evalE_popAt, ↓evalI_range1, ↓evalI_range2, ↓evalE_mul, ↓evalE_mod, ↓evalE_fdiv, ↓evalE_pow, evalSs, evalS, evalE, evalEs, evalT, evalI, evalO, evalC, SRes.seq_next, SRes.seq_ret, SRes.seq_err, SRes.seq_brk, SRes.seq_cnt, SRes.seq_stuck, Res.bind_ok, Res.bind_err, Res.bind_stuck, Res.st_ok, Res.st_err, Res.st_stuck, ofO_some, ofO_none, asP_d, getV_z, getV_s, Option.bind_some, Option.map_some, Option.bind_none, Option.map_none, biP, on1, ints2, unD, mkL_f, mkL_t, plain_d, truthP, List.set_cons_zero, List.set_cons_succ, ofOS, unpackV, setAll, setAllD, bindT, ite_tru, ite_fls, if_true, if_false, reduceIte, Bool.false_eq_true, Bool.not_true, Bool.not_false, retv_ok, bRange, if_pos hr, hq, rangeP_nat]
  refine for_then (P := fun r => outF false S.length r = _) (fun xs l S1 => ∃ (r : List Wy) (L : List Nat) (a b c : Option DV), xs = wys r ∧ l = [some (.d (.int n)), some (.d (sq (wys ls))), some (.d (.list (nats L))), a, b, c] ∧ S1 = S ∧ L.length = n ∧ Below n r ∧ labs low L r = labs low (List.range n) ls) ⟨ls, List.range n, none, none, none, rfl, rfl, rfl, by simp, hb, rfl⟩ ?_ ?_
  · rintro x r l S1 ⟨r', L, a, b, c, e1, e2, e3, hL, hb', e4⟩
    cases r' with
    | nil => cases e1
    | cons w r' =>
      cases e1
      rw [e2, e3]
      have hw := hb' w (List.mem_cons_self ..)
      have hb2 : Below n r' := fun x m => hb' x (List.mem_cons_of_mem _ m)
      have h1 : w.1 < L.length := by omega
      have h2 : w.2.1 < L.length := by omega
      simp only [forF, wy, startL, List.map_cons, List.map_nil, List.length_cons, List.length_nil, List.replicate, List.replicate_succ, List.replicate_zero, List.cons_append, List.nil_append, List.append_nil, Nat.reduceAdd, Nat.reduceSub, Nat.zero_add, ↓evalE_popAt, ↓evalI_range1, ↓evalI_range2, ↓evalE_mul, ↓evalE_mod, ↓evalE_fdiv, ↓evalE_pow, evalSs, evalS, evalE, evalEs, evalT, evalI, evalO, evalC, SRes.seq_next, SRes.seq_ret, SRes.seq_err, SRes.seq_brk, SRes.seq_cnt, SRes.seq_stuck, Res.bind_ok, Res.bind_err, Res.bind_stuck, Res.st_ok, Res.st_err, Res.st_stuck, ofO_some, ofO_none, asP_d, getV_z, getV_s, Option.bind_some, Option.map_some, Option.bind_none, Option.map_none, biP, on1, ints2, unD, mkL_f, mkL_t, plain_d, truthP, List.set_cons_zero, List.set_cons_succ, ofOS, unpackV, setAll, setAllD, bindT, ite_tru, ite_fls, if_true, if_false, reduceIte, Bool.false_eq_true, Bool.not_true, Bool.not_false, retv_ok, isi_int, isi_bool, isi_tup, bLen, seqV, seqP_t, seqP_l, lstP, intsV, eq_i, ne_i, le_i, lt_i, gt_i, ge_i, add_i, sub_i, itemsOf, enumOf, Int.cast_ofNat_Int, Int.natCast_one, List.length_map, Int.reduceEq, Int.reduceLT, Int.reduceLE, ix_nats h1, ix_nats h2]
      by_cases q : L.getD w.1 0 = L.getD w.2.1 0
      · rw [labs_eq q] at e4
        simp only [q, decide_true, ↓evalE_popAt, ↓evalI_range1, ↓evalI_range2, ↓evalE_mul, ↓evalE_mod, ↓evalE_fdiv, ↓evalE_pow, evalSs, evalS, evalE, evalEs, evalT, evalI, evalO, evalC, SRes.seq_next, SRes.seq_ret, SRes.seq_err, SRes.seq_brk, SRes.seq_cnt, SRes.seq_stuck, Res.bind_ok, Res.bind_err, Res.bind_stuck, Res.st_ok, Res.st_err, Res.st_stuck, ofO_some, ofO_none, asP_d, getV_z, getV_s, Option.bind_some, Option.map_some, Option.bind_none, Option.map_none, biP, on1, ints2, unD, mkL_f, mkL_t, plain_d, truthP, List.set_cons_zero, List.set_cons_succ, ofOS, unpackV, setAll, setAllD, bindT, ite_tru, ite_fls, if_true, if_false, reduceIte, Bool.false_eq_true, Bool.not_true, Bool.not_false, retv_ok]
        exact ⟨_, _, rfl, rfl, r', L, _, _, _, rfl, rfl, rfl, hL, hb2, e4⟩
      · rw [labs_ne q] at e4
        have q' : ¬ ((L.getD w.1 0 : Nat) : Int) = (L.getD w.2.1 0 : Nat) := by omega
        simp only [q', decide_false, ↓evalE_popAt, ↓evalI_range1, ↓evalI_range2, ↓evalE_mul, ↓evalE_mod, ↓evalE_fdiv, ↓evalE_pow, evalSs, evalS, evalE, evalEs, evalT, evalI, evalO, evalC, SRes.seq_next, SRes.seq_ret, SRes.seq_err, SRes.seq_brk, SRes.seq_cnt, SRes.seq_stuck, Res.bind_ok, Res.bind_err, Res.bind_stuck, Res.st_ok, Res.st_err, Res.st_stuck, ofO_some, ofO_none, asP_d, getV_z, getV_s, Option.bind_some, Option.map_some, Option.bind_none, Option.map_none, biP, on1, ints2, unD, mkL_f, mkL_t, plain_d, truthP, List.set_cons_zero, List.set_cons_succ, ofOS, unpackV, setAll, setAllD, bindT, ite_tru, ite_fls, if_true, if_false, reduceIte, Bool.false_eq_true, Bool.not_true, Bool.not_false, retv_ok, joined_i t hS d h1 h2 (by unfold LIM; omega)]
        exact ⟨_, _, rfl, rfl, r', _, _, _, _, rfl, rfl, rfl, by simpa using hL, hb2, e4⟩
  · rintro l S1 ⟨r', L, a, b, c, e1, e2, e3, hL, hb', e4⟩
    cases r' with
    | cons w r' => cases e1
    | nil =>
      rw [e2, e3]
      rw [labs_nil] at e4
      simp only [↓evalE_popAt, ↓evalI_range1, ↓evalI_range2, ↓evalE_mul, ↓evalE_mod, ↓evalE_fdiv, ↓evalE_pow, evalSs, evalS, evalE, evalEs, evalT, evalI, evalO, evalC, SRes.seq_next, SRes.seq_ret, SRes.seq_err, SRes.seq_brk, SRes.seq_cnt, SRes.seq_stuck, Res.bind_ok, Res.bind_err, Res.bind_stuck, Res.st_ok, Res.st_err, Res.st_stuck, ofO_some, ofO_none, asP_d, getV_z, getV_s, Option.bind_some, Option.map_some, Option.bind_none, Option.map_none, biP, on1, ints2, unD, mkL_f, mkL_t, plain_d, truthP, List.set_cons_zero, List.set_cons_succ, ofOS, unpackV, setAll, setAllD, bindT, ite_tru, ite_fls, if_true, if_false, reduceIte, Bool.false_eq_true, Bool.not_true, Bool.not_false, retv_ok, retv_ok hS, e4]
/-- a web's ways, as they must be -/
structure WebOk (n : Nat) (l : List Wy) : Prop where
  n1 : 1 ≤ n
  n40 : n ≤ 40
  uv : ∀ w, w ∈ l → w.1 < w.2.1 ∧ w.2.1 < n ∧ 1 ≤ w.2.2 ∧ w.2.2 ≤ 200
  ord : l.Pairwise fun a b => a.1 < b.1 ∨ (a.1 = b.1 ∧ a.2.1 < b.2.1)
  whole : Whole n l
omit t in
theorem WebOk.below {n : Nat} {l : List Wy} (h : WebOk n l) : Below n l := fun w m => by have := h.uv w m; omega
omit t in
theorem enumF_mem : ∀ {xs : List PyData} {k : Nat} {x : PyData}, x ∈ enumF k xs → ∃ i y, y ∈ xs ∧ x = .tuple [.int (i : Nat), y]
  | [], _, _, h => by simp [enumF] at h
  | y :: r, k, x, h => by
    unfold enumF at h
    rcases List.mem_cons.mp h with e | h
    · exact ⟨k, y, List.mem_cons_self .., e⟩
    · obtain ⟨i, z, m, e⟩ := enumF_mem h
      exact ⟨i, z, List.mem_cons_of_mem _ m, e⟩
theorem together_i (hS : Cl S) (d : Nat) {n : Nat} {ls : List Wy} (hb : Below n ls) (h0 : 0 < n) (hn : n ≤ 1000) (hw : Whole n ls) (sq : List PyData → PyData) (hsq : sq = .tuple ∨ sq = .list) :
    callF T wn (d + 3) "check_together" [.d (.int n), .d (sq (wys ls))] S = .ok (.d .none) S := by
  rw [callF_eq t.check_together rfl, C.t_check_together]
  simp only [startL, List.map_cons, List.map_nil, List.length_cons, List.length_nil, List.replicate, List.replicate_succ, List.replicate_zero, List.cons_append, List.nil_append, List.append_nil, Nat.reduceAdd, Nat.reduceSub, Nat.zero_add, ↓evalE_popAt, ↓evalI_range1, ↓evalI_range2, ↓evalE_mul, ↓evalE_mod, ↓evalE_fdiv, ↓evalE_pow, evalSs, evalS, evalE, evalEs, evalT, evalI, evalO, evalC, SRes.seq_next, SRes.seq_ret, SRes.seq_err, SRes.seq_brk, SRes.seq_cnt, SRes.seq_stuck, Res.bind_ok, Res.bind_err, Res.bind_stuck, Res.st_ok, Res.st_err, Res.st_stuck, ofO_some, ofO_none, asP_d, getV_z, getV_s, Option.bind_some, Option.map_some, Option.bind_none, Option.map_none, biP, on1, ints2, unD, mkL_f, mkL_t, plain_d, truthP, List.set_cons_zero, List.set_cons_succ, ofOS, unpackV, setAll, setAllD, bindT, ite_tru, ite_fls, if_true, if_false, reduceIte, Bool.false_eq_true, Bool.not_true, Bool.not_false, retv_ok, isi_int, isi_bool, isi_tup, bLen, seqV, seqP_t, seqP_l, lstP, intsV, eq_i, ne_i, le_i, lt_i, gt_i, ge_i, add_i, sub_i, itemsOf, enumOf, Int.cast_ofNat_Int, Int.natCast_one, List.length_map, Int.reduceEq, Int.reduceLT, Int.reduceLE, labels_i t hS d hb hn sq hsq]
  refine for_then (P := fun r => outF false S.length r = _) (fun xs l S1 => ∃ a b, (∀ x, x ∈ xs → ∃ i : Nat, x = .tuple [.int i, .int 0]) ∧ l = [some (.d (.int n)), some (.d (sq (wys ls))), a, b] ∧ S1 = S) ⟨none, none, ?_, rfl, rfl⟩ ?_ ?_
  · intro x hx
    obtain ⟨i, y, hy, e⟩ := enumF_mem hx
    obtain ⟨z, hz, e2⟩ := List.mem_map.mp hy
    obtain ⟨j, hj, e3⟩ := List.getElem_of_mem hz
    have hl : (labs low (List.range n) ls).length = n := by rw [labs_len]; simp
    have := labels_zero hb hw h0 j (by omega)
    rw [getD_lt hj, e3] at this
    refine ⟨i, ?_⟩
    rw [e, ← e2, this]
    rfl
  · rintro x r l S1 ⟨a, b, hx, e2, e3⟩
    obtain ⟨i, e⟩ := hx x (List.mem_cons_self ..)
    rw [e2, e3, e]
    simp only [forF, startL, List.map_cons, List.map_nil, List.length_cons, List.length_nil, List.replicate, List.replicate_succ, List.replicate_zero, List.cons_append, List.nil_append, List.append_nil, Nat.reduceAdd, Nat.reduceSub, Nat.zero_add, ↓evalE_popAt, ↓evalI_range1, ↓evalI_range2, ↓evalE_mul, ↓evalE_mod, ↓evalE_fdiv, ↓evalE_pow, evalSs, evalS, evalE, evalEs, evalT, evalI, evalO, evalC, SRes.seq_next, SRes.seq_ret, SRes.seq_err, SRes.seq_brk, SRes.seq_cnt, SRes.seq_stuck, Res.bind_ok, Res.bind_err, Res.bind_stuck, Res.st_ok, Res.st_err, Res.st_stuck, ofO_some, ofO_none, asP_d, getV_z, getV_s, Option.bind_some, Option.map_some, Option.bind_none, Option.map_none, biP, on1, ints2, unD, mkL_f, mkL_t, plain_d, truthP, List.set_cons_zero, List.set_cons_succ, ofOS, unpackV, setAll, setAllD, bindT, ite_tru, ite_fls, if_true, if_false, reduceIte, Bool.false_eq_true, Bool.not_true, Bool.not_false, retv_ok, isi_int, isi_bool, isi_tup, bLen, seqV, seqP_t, seqP_l, lstP, intsV, eq_i, ne_i, le_i, lt_i, gt_i, ge_i, add_i, sub_i, itemsOf, enumOf, Int.cast_ofNat_Int, Int.natCast_one, List.length_map, Int.reduceEq, Int.reduceLT, Int.reduceLE, decide_true]
    exact ⟨_, _, rfl, rfl, _, _, fun y m => hx y (List.mem_cons_of_mem _ m), rfl, rfl⟩
  · rintro l S1 ⟨a, b, hx, e2, e3⟩
    rw [e3]
    simp only [↓evalE_popAt, ↓evalI_range1, ↓evalI_range2, ↓evalE_mul, ↓evalE_mod, ↓evalE_fdiv, ↓evalE_pow, evalSs, evalS, evalE, evalEs, evalT, evalI, evalO, evalC, SRes.seq_next, SRes.seq_ret, SRes.seq_err, SRes.seq_brk, SRes.seq_cnt, SRes.seq_stuck, Res.bind_ok, Res.bind_err, Res.bind_stuck, Res.st_ok, Res.st_err, Res.st_stuck, ofO_some, ofO_none, asP_d, getV_z, getV_s, Option.bind_some, Option.map_some, Option.bind_none, Option.map_none, biP, on1, ints2, unD, mkL_f, mkL_t, plain_d, truthP, List.set_cons_zero, List.set_cons_succ, ofOS, unpackV, setAll, setAllD, bindT, ite_tru, ite_fls, if_true, if_false, reduceIte, Bool.false_eq_true, Bool.not_true, Bool.not_false, retv_ok, next_ok hS]
theorem check_ways_i (hS : Cl S) (d : Nat) {n : Nat} {ls : List Wy} (h : WebOk n ls) : callF T wn (d + 2) "_check_ways" [.d (.int n), .d (.tuple (wys ls))] S = .ok (.d .none) S := by
  rw [callF_eq t.check_ways rfl, C.t__check_ways]
  simp only [startL, List.map_cons, List.map_nil, List.length_cons, List.length_nil, List.replicate, List.replicate_succ, List.replicate_zero, List.cons_append, List.nil_append, List.append_nil, Nat.reduceAdd, Nat.reduceSub, Nat.zero_add, ↓evalE_popAt, ↓evalI_range1, ↓evalI_range2, ↓evalE_mul, ↓evalE_mod, ↓evalE_fdiv, ↓evalE_pow, evalSs, evalS, evalE, evalEs, evalT, evalI, evalO, evalC, SRes.seq_next, SRes.seq_ret, SRes.seq_err, SRes.seq_brk, SRes.seq_cnt, SRes.seq_stuck, Res.bind_ok, Res.bind_err, Res.bind_stuck, Res.st_ok, Res.st_err, Res.st_stuck, ofO_some, ofO_none, asP_d, getV_z, getV_s, Option.bind_some, Option.map_some, Option.bind_none, Option.map_none, biP, on1, ints2, unD, mkL_f, mkL_t, plain_d, truthP, List.set_cons_zero, List.set_cons_succ, ofOS, unpackV, setAll, setAllD, bindT, ite_tru, ite_fls, if_true, if_false, reduceIte, Bool.false_eq_true, Bool.not_true, Bool.not_false, retv_ok, isi_int, isi_bool, isi_tup, bLen, seqV, seqP_t, seqP_l, lstP, intsV, eq_i, ne_i, le_i, lt_i, gt_i, ge_i, add_i, sub_i, itemsOf, enumOf, Int.cast_ofNat_Int, Int.natCast_one, List.length_map, Int.reduceEq, Int.reduceLT, Int.reduceLE]
  refine for_then (P := fun r => outF false S.length r = _) (fun xs l S1 => ∃ (r : List Wy) (k : Nat) (p q : Int) (a b c e f : Option DV), xs = enumF k (wys r) ∧ l = [some (.d (.int n)), some (.d (.tuple (wys ls))), some (.d (.tuple [.int p, .int q])), a, b, c, e, f] ∧ S1 = S ∧
    (∀ w, w ∈ r → w ∈ ls) ∧ (∀ w, w ∈ r → p < (w.1 : Int) ∨ (p = (w.1 : Int) ∧ q < (w.2.1 : Int))) ∧ r.Pairwise fun a b => a.1 < b.1 ∨ (a.1 = b.1 ∧ a.2.1 < b.2.1)) ⟨ls, 0, -1, -1, none, none, none, none, none, rfl, rfl, rfl, fun _ m => m, fun w m => .inl (by omega), h.ord⟩ ?_ ?_
  · rintro x r l S1 ⟨r', k, p, q, a, b, c, e, f, e1, e2, e3, hm, hp, ho⟩
    cases r' with
    | nil => cases e1
    | cons w r' =>
      cases e1
      rw [e2, e3]
      have hw := h.uv w (hm w (List.mem_cons_self ..))
      have hp1 := hp w (List.mem_cons_self ..)
      have c1 : (0 : Int) ≤ (w.1 : Int) := by omega
      have c2 : (w.1 : Int) < (w.2.1 : Int) := by omega
      have c3 : (w.2.1 : Int) < (n : Int) := by omega
      have c4 : (1 : Int) ≤ (w.2.2 : Int) := by omega
      have c5 : (w.2.2 : Int) ≤ 200 := by omega
      have c6 : cmpP .le (.tuple [.int (w.1 : Int), .int (w.2.1 : Int)]) (.tuple [.int p, .int q]) = some false := by
        show some (lexLe [(w.1 : Int), (w.2.1 : Int)] [p, q]) = some false
        simp only [lexLe]
        split
        · split
          · omega
          · simp; omega
        · simp; omega
      simp only [forF, wy, startL, List.map_cons, List.map_nil, List.length_cons, List.length_nil, List.replicate, List.replicate_succ, List.replicate_zero, List.cons_append, List.nil_append, List.append_nil, Nat.reduceAdd, Nat.reduceSub, Nat.zero_add, ↓evalE_popAt, ↓evalI_range1, ↓evalI_range2, ↓evalE_mul, ↓evalE_mod, ↓evalE_fdiv, ↓evalE_pow, evalSs, evalS, evalE, evalEs, evalT, evalI, evalO, evalC, SRes.seq_next, SRes.seq_ret, SRes.seq_err, SRes.seq_brk, SRes.seq_cnt, SRes.seq_stuck, Res.bind_ok, Res.bind_err, Res.bind_stuck, Res.st_ok, Res.st_err, Res.st_stuck, ofO_some, ofO_none, asP_d, getV_z, getV_s, Option.bind_some, Option.map_some, Option.bind_none, Option.map_none, biP, on1, ints2, unD, mkL_f, mkL_t, plain_d, truthP, List.set_cons_zero, List.set_cons_succ, ofOS, unpackV, setAll, setAllD, bindT, ite_tru, ite_fls, if_true, if_false, reduceIte, Bool.false_eq_true, Bool.not_true, Bool.not_false, retv_ok, isi_int, isi_bool, isi_tup, bLen, seqV, seqP_t, seqP_l, lstP, intsV, eq_i, ne_i, le_i, lt_i, gt_i, ge_i, add_i, sub_i, itemsOf, enumOf, Int.cast_ofNat_Int, Int.natCast_one, List.length_map, Int.reduceEq, Int.reduceLT, Int.reduceLE, is_numbers_3 t hS d, c1, c2, c3, c4, c5, c6, decide_true, List.getElem?_cons_zero]
      refine ⟨_, _, rfl, rfl, r', k + 1, (w.1 : Int), (w.2.1 : Int), _, _, _, _, _, rfl, rfl, rfl, fun x m => hm x (List.mem_cons_of_mem _ m), fun x m => ?_, (List.pairwise_cons.mp ho).2⟩
      have := (List.pairwise_cons.mp ho).1 x m
      omega
  · rintro l S1 ⟨r', k, p, q, a, b, c, e, f, e1, e2, e3, hm, hp, ho⟩
    rw [e3]
    simp only [↓evalE_popAt, ↓evalI_range1, ↓evalI_range2, ↓evalE_mul, ↓evalE_mod, ↓evalE_fdiv, ↓evalE_pow, evalSs, evalS, evalE, evalEs, evalT, evalI, evalO, evalC, SRes.seq_next, SRes.seq_ret, SRes.seq_err, SRes.seq_brk, SRes.seq_cnt, SRes.seq_stuck, Res.bind_ok, Res.bind_err, Res.bind_stuck, Res.st_ok, Res.st_err, Res.st_stuck, ofO_some, ofO_none, asP_d, getV_z, getV_s, Option.bind_some, Option.map_some, Option.bind_none, Option.map_none, biP, on1, ints2, unD, mkL_f, mkL_t, plain_d, truthP, List.set_cons_zero, List.set_cons_succ, ofOS, unpackV, setAll, setAllD, bindT, ite_tru, ite_fls, if_true, if_false, reduceIte, Bool.false_eq_true, Bool.not_true, Bool.not_false, retv_ok, next_ok hS]
theorem made_web_i (hS : Cl S) (d : Nat) {n : Nat} {ls : List Wy} (h : WebOk n ls) (hl : ls.length ≤ LIM) : callF T wn (d + 4) "made_web" [.d (web n ls)] S = .ok (.d (web n ls)) S := by
  have c1 : (1 : Int) ≤ (n : Int) ∧ (n : Int) ≤ 40 := by have := h.n1; have := h.n40; omega
  rw [callF_eq t.made_web rfl, C.t_made_web]
  simp only [web, startL, List.map_cons, List.map_nil, List.length_cons, List.length_nil, List.replicate, List.replicate_succ, List.replicate_zero, List.cons_append, List.nil_append, List.append_nil, Nat.reduceAdd, Nat.reduceSub, Nat.zero_add, ↓evalE_popAt, ↓evalI_range1, ↓evalI_range2, ↓evalE_mul, ↓evalE_mod, ↓evalE_fdiv, ↓evalE_pow, evalSs, evalS, evalE, evalEs, evalT, evalI, evalO, evalC, SRes.seq_next, SRes.seq_ret, SRes.seq_err, SRes.seq_brk, SRes.seq_cnt, SRes.seq_stuck, Res.bind_ok, Res.bind_err, Res.bind_stuck, Res.st_ok, Res.st_err, Res.st_stuck, ofO_some, ofO_none, asP_d, getV_z, getV_s, Option.bind_some, Option.map_some, Option.bind_none, Option.map_none, biP, on1, ints2, unD, mkL_f, mkL_t, plain_d, truthP, List.set_cons_zero, List.set_cons_succ, ofOS, unpackV, setAll, setAllD, bindT, ite_tru, ite_fls, if_true, if_false, reduceIte, Bool.false_eq_true, Bool.not_true, Bool.not_false, retv_ok, isi_int, isi_bool, isi_tup, bLen, seqV, seqP_t, seqP_l, lstP, intsV, eq_i, ne_i, le_i, lt_i, gt_i, ge_i, add_i, sub_i, itemsOf, enumOf, Int.cast_ofNat_Int, Int.natCast_one, List.length_map, Int.reduceEq, Int.reduceLT, Int.reduceLE, is_within_i t hS, c1, and_self, decide_true, check_ways_i t hS _ h, together_i t hS _ h.below h.n1 (by have := h.n40; omega) h.whole _ (.inl rfl)]
  simp only [wys_len, if_pos hl]
  rw [comp_map (g := id) rfl]
  · simp only [noErr_ok, ↓evalE_popAt, ↓evalI_range1, ↓evalI_range2, ↓evalE_mul, ↓evalE_mod, ↓evalE_fdiv, ↓evalE_pow, evalSs, evalS, evalE, evalEs, evalT, evalI, evalO, evalC, SRes.seq_next, SRes.seq_ret, SRes.seq_err, SRes.seq_brk, SRes.seq_cnt, SRes.seq_stuck, Res.bind_ok, Res.bind_err, Res.bind_stuck, Res.st_ok, Res.st_err, Res.st_stuck, ofO_some, ofO_none, asP_d, getV_z, getV_s, Option.bind_some, Option.map_some, Option.bind_none, Option.map_none, biP, on1, ints2, unD, mkL_f, mkL_t, plain_d, truthP, List.set_cons_zero, List.set_cons_succ, ofOS, unpackV, setAll, setAllD, bindT, ite_tru, ite_fls, if_true, if_false, reduceIte, Bool.false_eq_true, Bool.not_true, Bool.not_false, retv_ok, isi_int, isi_bool, isi_tup, bLen, seqV, seqP_t, seqP_l, lstP, intsV, eq_i, ne_i, le_i, lt_i, gt_i, ge_i, add_i, sub_i, itemsOf, enumOf, Int.cast_ofNat_Int, Int.natCast_one, List.length_map, Int.reduceEq, Int.reduceLT, Int.reduceLE, retv_ok hS, List.map_id, List.nil_append]
  · intro x hx
    obtain ⟨w, _, rfl⟩ := List.mem_map.mp hx
    simp only [compF, wipeL, wy, ↓evalE_popAt, ↓evalI_range1, ↓evalI_range2, ↓evalE_mul, ↓evalE_mod, ↓evalE_fdiv, ↓evalE_pow, evalSs, evalS, evalE, evalEs, evalT, evalI, evalO, evalC, SRes.seq_next, SRes.seq_ret, SRes.seq_err, SRes.seq_brk, SRes.seq_cnt, SRes.seq_stuck, Res.bind_ok, Res.bind_err, Res.bind_stuck, Res.st_ok, Res.st_err, Res.st_stuck, ofO_some, ofO_none, asP_d, getV_z, getV_s, Option.bind_some, Option.map_some, Option.bind_none, Option.map_none, biP, on1, ints2, unD, mkL_f, mkL_t, plain_d, truthP, List.set_cons_zero, List.set_cons_succ, ofOS, unpackV, setAll, setAllD, bindT, ite_tru, ite_fls, if_true, if_false, reduceIte, Bool.false_eq_true, Bool.not_true, Bool.not_false, retv_ok, id]
end EvP
end
section
set_option maxRecDepth 100000
set_option maxHeartbeats 1000000
/-! EvP3: sorting ways; the least legs. -/
namespace EvP
open Ev PySem L2 MW
def t3 (a b c : Int) : PyData := .tuple [.int a, .int b, .int c]
/-- days first -/
def kd (w : Wy) : PyData := .tuple [.int w.2.2, .int w.1, .int w.2.1]
theorem dataLt_iii (x y z x' y' z' : Int) : PySem.W.dataLt (t3 x y z) (t3 x' y' z') = decide (x < x' ∨ (x = x' ∧ (y < y' ∨ (y = y' ∧ z < z')))) := by
  unfold t3
  rw [PySem.W.dataLt_tuple, PySem.W.dataLt_cons (by simp [PySem.W.alike]), PySem.W.dataLt_cons (by simp [PySem.W.alike]), PySem.W.dataLt_cons (by simp [PySem.W.alike]), PySem.W.dataLt_int, PySem.W.dataLt_int, PySem.W.dataLt_int]
  have e : PyProof.Rows.lexLt PyProof.Rows.itemOrd (PySem.W.keyToksAll []) (PySem.W.keyToksAll []) = false := PyProof.Rows.lex_irrefl _
  rw [e]
  simp only [PyData.eqv, beq_iff_eq]
  by_cases h1 : x = x' <;> by_cases h2 : y = y' <;> by_cases h3 : z = z' <;> simp [h1, h2, h3]
theorem le_wy (a b : Wy) : PySem.W.dataLe false id (wy a) (wy b) = leU a b := by
  show (!PySem.W.dataLt (t3 b.1 b.2.1 b.2.2) (t3 a.1 a.2.1 a.2.2)) = _
  rw [dataLt_iii]
  unfold leU
  rw [← decide_not]
  exact decide_eq_decide.mpr (by omega)
theorem le_kd (a b : Wy) : PySem.W.dataLe false id (kd a) (kd b) = leD a b := by
  show (!PySem.W.dataLt (t3 b.2.2 b.1 b.2.1) (t3 a.2.2 a.1 a.2.1)) = _
  rw [dataLt_iii]
  unfold leD
  rw [← decide_not]
  exact decide_eq_decide.mpr (by omega)
theorem alike_t3 (a b c a' b' c' : Int) : PySem.W.alike (t3 a b c) (t3 a' b' c') = true := by simp [t3, PySem.W.alike, PySem.W.alikeAll]
theorem sortOk_of {α : Type} {e : α → PyData} {l : List α} (h : ∀ a, ∃ x y z, e a = t3 x y z) : sortOk (l.map e) = true := by
  unfold sortOk
  rw [Bool.and_eq_true, Bool.and_eq_true, Bool.or_eq_true]
  refine ⟨⟨?_, .inl ?_⟩, ?_⟩
  · rw [List.all_eq_true]
    intro x hx
    rw [List.all_eq_true]
    intro y hy
    obtain ⟨a, _, rfl⟩ := List.mem_map.mp hx
    obtain ⟨b, _, rfl⟩ := List.mem_map.mp hy
    obtain ⟨_, _, _, e1⟩ := h a
    obtain ⟨_, _, _, e2⟩ := h b
    rw [e1, e2]
    exact alike_t3 ..
  · rw [List.all_eq_true]
    intro x hx
    obtain ⟨a, _, rfl⟩ := List.mem_map.mp hx
    obtain ⟨_, _, _, e1⟩ := h a
    rw [e1]; rfl
  · rw [List.all_eq_true]
    intro x hx
    obtain ⟨a, _, rfl⟩ := List.mem_map.mp hx
    obtain ⟨_, _, _, e1⟩ := h a
    rw [e1]
    simp [t3, PyData.depth, PyData.depthAll]
theorem wy3 (w : Wy) : ∃ x y z, wy w = t3 x y z := ⟨_, _, _, rfl⟩
theorem kd3 (w : Wy) : ∃ x y z, kd w = t3 x y z := ⟨_, _, _, rfl⟩
theorem sortedP_wys {l : List Wy} (h : l.length ≤ LIM) : sortedP (wys l) = some (wys (sortU l)) := by
  unfold sortedP
  rw [if_pos ⟨sortOk_of wy3, by rw [wys_len]; exact h⟩]
  unfold wys sortU
  rw [List.map_mergeSort fun a _ b _ => (le_wy a b).symm]
theorem sortedP_kd {l : List Wy} (h : l.length ≤ LIM) : sortedP (l.map kd) = some ((sortD l).map kd) := by
  unfold sortedP
  rw [if_pos ⟨sortOk_of kd3, by rw [List.length_map]; exact h⟩]
  unfold sortD
  rw [List.map_mergeSort fun a _ b _ => (le_kd a b).symm]
theorem sortedK_wys {l : List Wy} (h : l.length ≤ LIM) : sortedK ((wys l).zip (l.map kd)) = some (wys (sortD l)) := by
  have e : (wys l).zip (l.map kd) = l.map fun w => (wy w, kd w) := by unfold wys; rw [List.zip_map']
  unfold sortedK
  rw [e, List.map_map]
  rw [if_pos ⟨sortOk_of (e := (fun x : PyData × PyData => x.2) ∘ fun w => (wy w, kd w)) (fun w => kd3 w), by rw [List.length_map]; exact h⟩]
  have e2 : (l.map fun w => (wy w, kd w)).mergeSort (PySem.W.dataLe false (·.2)) = (sortD l).map fun w => (wy w, kd w) := by
    unfold sortD
    rw [List.map_mergeSort (s := PySem.W.dataLe false (·.2)) fun a _ b _ => (le_kd a b).symm]
  rw [e2, List.map_map]
  rfl
structure TL (T : String → Option Fn) : Prop where
  w : TW T
  by_days : T "by_days" = some C.t_by_days
  least_legs : T "least_legs" = some C.t_least_legs
variable {T : String → Option Fn} {wn : Nat} {S : Sto} (t : TL T)
include t
theorem by_days_i (hS : Cl S) (d : Nat) (w : Wy) : callF T wn (d + 1) "by_days" [.d (wy w)] S = .ok (.d (kd w)) S := by
  rw [callF_eq t.by_days rfl, C.t_by_days]
  have e0 : ixP (wy w) (.int 0) = some (.int w.1) := rfl
  have e1 : ixP (wy w) (.int 1) = some (.int w.2.1) := rfl
  have e2 : ixP (wy w) (.int 2) = some (.int w.2.2) := rfl
  simp only [startL, List.map_cons, List.map_nil, List.length_cons, List.length_nil, List.replicate, List.replicate_succ, List.replicate_zero, List.cons_append, List.nil_append, List.append_nil, Nat.reduceAdd, Nat.reduceSub, Nat.zero_add, ↓evalE_popAt, ↓evalI_range1, ↓evalI_range2, ↓evalE_mul, ↓evalE_mod, ↓evalE_fdiv, ↓evalE_pow, evalSs, evalS, evalE, evalEs, evalT, evalI, evalO, evalC, SRes.seq_next, SRes.seq_ret, SRes.seq_err, SRes.seq_brk, SRes.seq_cnt, SRes.seq_stuck, Res.bind_ok, Res.bind_err, Res.bind_stuck, Res.st_ok, Res.st_err, Res.st_stuck, ofO_some, ofO_none, asP_d, getV_z, getV_s, Option.bind_some, Option.map_some, Option.bind_none, Option.map_none, biP, on1, ints2, unD, mkL_f, mkL_t, plain_d, truthP, List.set_cons_zero, List.set_cons_succ, ofOS, unpackV, setAll, setAllD, bindT, ite_tru, ite_fls, if_true, if_false, reduceIte, Bool.false_eq_true, Bool.not_true, Bool.not_false, retv_ok, e0, e1, e2, retv_ok hS]
  rfl
theorem keys_i (d : Nat) (l : List Wy) : keysOf (callF T wn (d + 1)) "by_days" (wys l) S = some (l.map kd) := by
  induction l with
  | nil => rfl
  | cons w r ih =>
    show keysOf _ _ (wy w :: wys r) S = _
    unfold keysOf
    rw [by_days_i t Cl.nil d w]
    simp only [ih, Option.map_some, List.map_cons]
omit t in
theorem Cl.lst (hS : Cl S) (xs : List PyData) : Cl (S ++ [.lst xs]) := by
  unfold Cl closedB at *
  rw [List.all_append, Bool.and_eq_true]
  refine ⟨?_, rfl⟩
  rw [List.all_eq_true] at hS ⊢
  intro o m
  have := hS o m
  cases o with
  | box vs =>
    simp only [List.all_eq_true] at this ⊢
    intro v hv
    have := this v hv
    cases v with
    | d x => rfl
    | ref i => simp only [decide_eq_true_eq, List.length_append, List.length_cons, List.length_nil] at this ⊢; omega
  | _ => rfl
omit t in
theorem lstAt_own {xs : List PyData} : lstAt (S ++ [.lst xs]) S.length = some xs := by simp [lstAt]
omit t in
theorem set_own {o o' : OB} : (S ++ [o]).set S.length o' = S ++ [o'] := by simp
theorem least_legs_i (hS : Cl S) (d : Nat) {n : Nat} {ls : List Wy} (hb : Below n ls) (hn : n ≤ 1000) (hl : ls.length < LIM) (sq : List PyData → PyData) (hsq : sq = .tuple ∨ sq = .list) :
    callF T wn (d + 2) "least_legs" [.d (.int n), .d (sq (wys ls))] S = .ok (.d (.list (wys (least ls)))) S := by
  have hq : seqV (S ++ [.lst []]) (.d (sq (wys ls))) = some (wys ls) := by rcases hsq with e | e <;> rw [e] <;> rfl
  have hr : (n : Int) ≤ (LIM : Int) ∧ -(2 ^ 62) ≤ (n : Int) := by unfold LIM; omega
  have hs : (sortD ls).length = ls.length := sortD_perm.length_eq
  have hbs : Below n (sortD ls) := hb.perm sortD_perm
  have et : take low (List.range n) (sortD ls) = least ls := take_kr joins_lowF Lab.start hbs
  rw [callF_eq t.least_legs rfl, C.t_least_legs]
  simp only [startL, List.map_cons, List.map_nil, List.length_cons, List.length_nil, List.replicate, List.replicate_succ, List.replicate_zero, List.cons_append, List.nil_append, List.append_nil, Nat.reduceAdd, Nat.reduceSub, Nat.zero_add, ↓evalE_popAt, ↓evalI_range1, ↓evalI_range2, ↓evalE_mul, ↓evalE_mod, ↓evalE_fdiv, ↓evalE_pow, evalSs, evalS, evalE, evalEs, evalT, evalI, evalO, evalC, SRes.seq_next, SRes.seq_ret, SRes.seq_err, SRes.seq_brk, SRes.seq_cnt, SRes.seq_stuck, Res.bind_ok, Res.bind_err, Res.bind_stuck, Res.st_ok, Res.st_err, Res.st_stuck, ofO_some, ofO_none, asP_d, getV_z, getV_s, Option.bind_some, Option.map_some, Option.bind_none, Option.map_none, biP, on1, ints2, unD, mkL_f, mkL_t, plain_d, truthP, List.set_cons_zero, List.set_cons_succ, ofOS, unpackV, setAll, setAllD, bindT, ite_tru, ite_fls, if_true, if_false, reduceIte, Bool.false_eq_true, Bool.not_true, Bool.not_false, retv_ok, bRange, if_pos hr, hq, rangeP_nat, keys_i t, sortedK_wys (Nat.le_of_lt hl), bNew, itemsOf, seqP_l]
  refine for_then (P := fun r => outF false S.length r = _) (fun xs l S1 => ∃ (r k : List Wy) (L : List Nat) (a b c : Option DV), xs = wys r ∧ l = [some (.d (.int n)), some (.d (sq (wys ls))), some (.ref S.length), some (.d (.list (nats L))), a, b, c] ∧ S1 = S ++ [.lst (wys k)] ∧ L.length = n ∧ Below n r ∧ k.length + r.length ≤ ls.length ∧ k ++ take low L r = least ls)
    ⟨sortD ls, [], List.range n, none, none, none, rfl, rfl, rfl, by simp, hbs, by simp [hs], by simpa using et⟩ ?_ ?_
  · rintro x r l S1 ⟨r', k, L, a, b, c, e1, e2, e3, hL, hb', hk, e4⟩
    cases r' with
    | nil => cases e1
    | cons w r' =>
      cases e1
      rw [e2, e3]
      have hw := hb' w (List.mem_cons_self ..)
      have hb2 : Below n r' := fun x m => hb' x (List.mem_cons_of_mem _ m)
      have h1 : w.1 < L.length := by omega
      have h2 : w.2.1 < L.length := by omega
      simp only [List.length_cons] at hk
      simp only [forF, wy, startL, List.map_cons, List.map_nil, List.length_cons, List.length_nil, List.replicate, List.replicate_succ, List.replicate_zero, List.cons_append, List.nil_append, List.append_nil, Nat.reduceAdd, Nat.reduceSub, Nat.zero_add, ↓evalE_popAt, ↓evalI_range1, ↓evalI_range2, ↓evalE_mul, ↓evalE_mod, ↓evalE_fdiv, ↓evalE_pow, evalSs, evalS, evalE, evalEs, evalT, evalI, evalO, evalC, SRes.seq_next, SRes.seq_ret, SRes.seq_err, SRes.seq_brk, SRes.seq_cnt, SRes.seq_stuck, Res.bind_ok, Res.bind_err, Res.bind_stuck, Res.st_ok, Res.st_err, Res.st_stuck, ofO_some, ofO_none, asP_d, getV_z, getV_s, Option.bind_some, Option.map_some, Option.bind_none, Option.map_none, biP, on1, ints2, unD, mkL_f, mkL_t, plain_d, truthP, List.set_cons_zero, List.set_cons_succ, ofOS, unpackV, setAll, setAllD, bindT, ite_tru, ite_fls, if_true, if_false, reduceIte, Bool.false_eq_true, Bool.not_true, Bool.not_false, retv_ok, isi_int, isi_bool, isi_tup, bLen, seqV, seqP_t, seqP_l, lstP, intsV, eq_i, ne_i, le_i, lt_i, gt_i, ge_i, add_i, sub_i, itemsOf, enumOf, Int.cast_ofNat_Int, Int.natCast_one, List.length_map, Int.reduceEq, Int.reduceLT, Int.reduceLE, ix_nats h1, ix_nats h2]
      by_cases q : L.getD w.1 0 = L.getD w.2.1 0
      · rw [take_eq q] at e4
        simp only [q, decide_true, ↓evalE_popAt, ↓evalI_range1, ↓evalI_range2, ↓evalE_mul, ↓evalE_mod, ↓evalE_fdiv, ↓evalE_pow, evalSs, evalS, evalE, evalEs, evalT, evalI, evalO, evalC, SRes.seq_next, SRes.seq_ret, SRes.seq_err, SRes.seq_brk, SRes.seq_cnt, SRes.seq_stuck, Res.bind_ok, Res.bind_err, Res.bind_stuck, Res.st_ok, Res.st_err, Res.st_stuck, ofO_some, ofO_none, asP_d, getV_z, getV_s, Option.bind_some, Option.map_some, Option.bind_none, Option.map_none, biP, on1, ints2, unD, mkL_f, mkL_t, plain_d, truthP, List.set_cons_zero, List.set_cons_succ, ofOS, unpackV, setAll, setAllD, bindT, ite_tru, ite_fls, if_true, if_false, reduceIte, Bool.false_eq_true, Bool.not_true, Bool.not_false, retv_ok]
        exact ⟨_, _, rfl, rfl, r', k, L, _, _, _, rfl, rfl, rfl, hL, hb2, by omega, e4⟩
      · rw [take_ne q] at e4
        have q' : ¬ ((L.getD w.1 0 : Nat) : Int) = (L.getD w.2.1 0 : Nat) := by omega
        have hk2 : (wys k).length < LIM := by rw [wys_len]; omega
        have rc : recv (.ref S.length) (S ++ [.lst (wys k)]) = true := by show (lstAt (S ++ [.lst (wys k)]) S.length).isSome = true; rw [lstAt_own]; rfl
        simp only [q', decide_false, ↓evalE_popAt, ↓evalI_range1, ↓evalI_range2, ↓evalE_mul, ↓evalE_mod, ↓evalE_fdiv, ↓evalE_pow, evalSs, evalS, evalE, evalEs, evalT, evalI, evalO, evalC, SRes.seq_next, SRes.seq_ret, SRes.seq_err, SRes.seq_brk, SRes.seq_cnt, SRes.seq_stuck, Res.bind_ok, Res.bind_err, Res.bind_stuck, Res.st_ok, Res.st_err, Res.st_stuck, ofO_some, ofO_none, asP_d, getV_z, getV_s, Option.bind_some, Option.map_some, Option.bind_none, Option.map_none, biP, on1, ints2, unD, mkL_f, mkL_t, plain_d, truthP, List.set_cons_zero, List.set_cons_succ, ofOS, unpackV, setAll, setAllD, bindT, ite_tru, ite_fls, if_true, if_false, reduceIte, Bool.false_eq_true, Bool.not_true, Bool.not_false, retv_ok, methP, lstAt_own, mAppend, if_pos hk2, set_own, rc, joined_i t.w (hS.lst _) d h1 h2 (by unfold LIM; omega)]
        refine ⟨_, _, rfl, rfl, r', k ++ [w], L.map (low (L.getD w.1 0) (L.getD w.2.1 0)), _, _, _, rfl, rfl, ?_, by simpa using hL, hb2, by simp; omega, by simpa using e4⟩
        simp [wys, wy]
  · rintro l S1 ⟨r', k, L, a, b, c, e1, e2, e3, hL, hb', hk, e4⟩
    cases r' with
    | cons w r' => cases e1
    | nil =>
      rw [e2, e3]
      have e5 : k = least ls := by simpa [take] using e4
      rw [e5]
      simp only [↓evalE_popAt, ↓evalI_range1, ↓evalI_range2, ↓evalE_mul, ↓evalE_mod, ↓evalE_fdiv, ↓evalE_pow, evalSs, evalS, evalE, evalEs, evalT, evalI, evalO, evalC, SRes.seq_next, SRes.seq_ret, SRes.seq_err, SRes.seq_brk, SRes.seq_cnt, SRes.seq_stuck, Res.bind_ok, Res.bind_err, Res.bind_stuck, Res.st_ok, Res.st_err, Res.st_stuck, ofO_some, ofO_none, asP_d, getV_z, getV_s, Option.bind_some, Option.map_some, Option.bind_none, Option.map_none, biP, on1, ints2, unD, mkL_f, mkL_t, plain_d, truthP, List.set_cons_zero, List.set_cons_succ, ofOS, unpackV, setAll, setAllD, bindT, ite_tru, ite_fls, if_true, if_false, reduceIte, Bool.false_eq_true, Bool.not_true, Bool.not_false, retv_ok]
      exact retl_own (i := 0) hS rfl
end EvP
end
section
set_option maxRecDepth 100000
set_option maxHeartbeats 1000000
/-! EvP4: loans, the numbers of a web. -/
namespace EvP
open Ev PySem L2 MW
def loans (k L j : Nat) : PyData := .tuple [.str "loans", .int k, .int L, .int j]
structure LoansOk (k L j : Nat) : Prop where
  k1 : 1 ≤ k
  k20 : k ≤ 20
  l1 : 1 ≤ L
  l200 : L ≤ 200
  jl : j ≤ L
structure TN (T : String → Option Fn) : Prop where
  l : TL T
  fresh : T "fresh" = some C.t_fresh
  made_terms : T "made_terms" = some C.t_made_terms
  checked_terms : T "checked_terms" = some C.t_checked_terms
  begins : T "_begins" = some C.t__begins
  check_loans : T "check_loans_terms" = some C.t_check_loans_terms
  are_loans : T "are_loans" = some C.t_are_loans
  three : T "three_numbers" = some C.t_three_numbers
  in_all : T "days_in_all" = some C.t_days_in_all
  longest : T "days_of_longest" = some C.t_days_of_longest
  summands_by : T "summands_by" = some C.t_summands_by
  reserve_by : T "reserve_by" = some C.t_reserve_by
  crates_by : T "crates_by" = some C.t_crates_by
  needed : T "needed" = some C.t_needed
  summands : T "summands" = some C.t_summands
theorem eq_loans : cmpP .eq (.str "loans") (.str "loans") = some true := by
  show (if SeqAt.shaped (.str "loans") = true ∧ SeqAt.shaped (.str "loans") = true then some (PyData.eqv (.str "loans") (.str "loans")) else none) = _
  rw [if_pos (by decide +kernel)]
  rw [show PyData.eqv (.str "loans") (.str "loans") = true by decide +kernel]
theorem sumI_days : ∀ l : List Wy, sumI (l.map fun w => .int (w.2.2 : Nat)) = some (days l : Int)
  | [] => rfl
  | w :: r => by
    show (sumI (r.map _)).map ((w.2.2 : Int) + ·) = _
    rw [sumI_days r, days_cons]
    simp
theorem intsOf_days (l : List Wy) : intsOf (l.map fun w => .int (w.2.2 : Nat)) = some (l.map fun w => (w.2.2 : Int)) := by
  have := intsOf_map (l.map fun w => (w.2.2 : Int))
  rw [List.map_map] at this
  exact this
theorem fold_mx : ∀ (l : List Wy) (a : Nat), (l.map fun w => (w.2.2 : Int)).foldl (fun a b => if b > a then b else a) (a : Int) = (max a (mx l) : Nat)
  | [], a => by simp [mx]
  | w :: r, a => by
    rw [List.map_cons, List.foldl_cons, max_i, fold_mx r, mx]
    congr 1
    omega
theorem maxI_days : ∀ l : List Wy, l ≠ [] → maxI (l.map fun w => (w.2.2 : Int)) = some (mx l : Int)
  | [], h => absurd rfl h
  | w :: r, _ => by
    show some _ = _
    rw [fold_mx, mx]
def need (k L j T M : Nat) : Int := (k : Int) * ((T : Int) + ((L : Int) + if (M : Int) - (j : Int) > 0 then (M : Int) - (j : Int) else 0))
variable {T : String → Option Fn} {wn : Nat} {S : Sto} (t : TN T)
include t
theorem fresh_int (hS : Cl S) (d : Nat) (i : Int) : True := trivial
theorem fresh_loans (hS : Cl S) (d k L j : Nat) : callF T wn (d + 1) "fresh" [.d (loans k L j)] S = .ok (.d (loans k L j)) S := by
  rw [callF_eq t.fresh rfl, C.t_fresh]
  have e0 : (4 : Nat) ≤ LIM := by decide
  simp only [loans, startL, List.map_cons, List.map_nil, List.length_cons, List.length_nil, List.replicate, List.replicate_succ, List.replicate_zero, List.cons_append, List.nil_append, List.append_nil, Nat.reduceAdd, Nat.reduceSub, Nat.zero_add, ↓evalE_popAt, ↓evalI_range1, ↓evalI_range2, ↓evalE_mul, ↓evalE_mod, ↓evalE_fdiv, ↓evalE_pow, evalSs, evalS, evalE, evalEs, evalT, evalI, evalO, evalC, SRes.seq_next, SRes.seq_ret, SRes.seq_err, SRes.seq_brk, SRes.seq_cnt, SRes.seq_stuck, Res.bind_ok, Res.bind_err, Res.bind_stuck, Res.st_ok, Res.st_err, Res.st_stuck, ofO_some, ofO_none, asP_d, getV_z, getV_s, Option.bind_some, Option.map_some, Option.bind_none, Option.map_none, biP, on1, ints2, unD, mkL_f, mkL_t, plain_d, truthP, List.set_cons_zero, List.set_cons_succ, ofOS, unpackV, setAll, setAllD, bindT, ite_tru, ite_fls, if_true, if_false, reduceIte, Bool.false_eq_true, Bool.not_true, Bool.not_false, retv_ok, isi_int, isi_bool, isi_tup, bLen, seqV, seqP_t, seqP_l, lstP, intsV, eq_i, ne_i, le_i, lt_i, gt_i, ge_i, add_i, sub_i, itemsOf, enumOf, Int.cast_ofNat_Int, Int.natCast_one, List.length_map, Int.reduceEq, Int.reduceLT, Int.reduceLE, if_pos e0]
  rw [comp_map (g := id) rfl]
  · simp only [noErr_ok, ↓evalE_popAt, ↓evalI_range1, ↓evalI_range2, ↓evalE_mul, ↓evalE_mod, ↓evalE_fdiv, ↓evalE_pow, evalSs, evalS, evalE, evalEs, evalT, evalI, evalO, evalC, SRes.seq_next, SRes.seq_ret, SRes.seq_err, SRes.seq_brk, SRes.seq_cnt, SRes.seq_stuck, Res.bind_ok, Res.bind_err, Res.bind_stuck, Res.st_ok, Res.st_err, Res.st_stuck, ofO_some, ofO_none, asP_d, getV_z, getV_s, Option.bind_some, Option.map_some, Option.bind_none, Option.map_none, biP, on1, ints2, unD, mkL_f, mkL_t, plain_d, truthP, List.set_cons_zero, List.set_cons_succ, ofOS, unpackV, setAll, setAllD, bindT, ite_tru, ite_fls, if_true, if_false, reduceIte, Bool.false_eq_true, Bool.not_true, Bool.not_false, retv_ok, isi_int, isi_bool, isi_tup, bLen, seqV, seqP_t, seqP_l, lstP, intsV, eq_i, ne_i, le_i, lt_i, gt_i, ge_i, add_i, sub_i, itemsOf, enumOf, Int.cast_ofNat_Int, Int.natCast_one, List.length_map, Int.reduceEq, Int.reduceLT, Int.reduceLE, retv_ok hS, List.map_id, List.nil_append]
  · intro x hx
    have nt : isiP "tuple" x = some false := by
      simp only [List.mem_cons, List.not_mem_nil, or_false] at hx
      rcases hx with e | e | e | e <;> rw [e] <;> rfl
    simp only [compF, wipeL, ↓evalE_popAt, ↓evalI_range1, ↓evalI_range2, ↓evalE_mul, ↓evalE_mod, ↓evalE_fdiv, ↓evalE_pow, evalSs, evalS, evalE, evalEs, evalT, evalI, evalO, evalC, SRes.seq_next, SRes.seq_ret, SRes.seq_err, SRes.seq_brk, SRes.seq_cnt, SRes.seq_stuck, Res.bind_ok, Res.bind_err, Res.bind_stuck, Res.st_ok, Res.st_err, Res.st_stuck, ofO_some, ofO_none, asP_d, getV_z, getV_s, Option.bind_some, Option.map_some, Option.bind_none, Option.map_none, biP, on1, ints2, unD, mkL_f, mkL_t, plain_d, truthP, List.set_cons_zero, List.set_cons_succ, ofOS, unpackV, setAll, setAllD, bindT, ite_tru, ite_fls, if_true, if_false, reduceIte, Bool.false_eq_true, Bool.not_true, Bool.not_false, retv_ok, nt, id]
theorem begins_loans (hS : Cl S) (d k L j : Nat) : callF T wn (d + 1) "_begins" [.d (loans k L j), .d (.str "loans"), .d (.int 4)] S = .ok (.d (.bool true)) S := by
  rw [callF_eq t.begins rfl, C.t__begins]
  have e0 : ixP (.tuple [.str "loans", .int k, .int L, .int j]) (.int 0) = some (.str "loans") := rfl
  simp only [loans, startL, List.map_cons, List.map_nil, List.length_cons, List.length_nil, List.replicate, List.replicate_succ, List.replicate_zero, List.cons_append, List.nil_append, List.append_nil, Nat.reduceAdd, Nat.reduceSub, Nat.zero_add, ↓evalE_popAt, ↓evalI_range1, ↓evalI_range2, ↓evalE_mul, ↓evalE_mod, ↓evalE_fdiv, ↓evalE_pow, evalSs, evalS, evalE, evalEs, evalT, evalI, evalO, evalC, SRes.seq_next, SRes.seq_ret, SRes.seq_err, SRes.seq_brk, SRes.seq_cnt, SRes.seq_stuck, Res.bind_ok, Res.bind_err, Res.bind_stuck, Res.st_ok, Res.st_err, Res.st_stuck, ofO_some, ofO_none, asP_d, getV_z, getV_s, Option.bind_some, Option.map_some, Option.bind_none, Option.map_none, biP, on1, ints2, unD, mkL_f, mkL_t, plain_d, truthP, List.set_cons_zero, List.set_cons_succ, ofOS, unpackV, setAll, setAllD, bindT, ite_tru, ite_fls, if_true, if_false, reduceIte, Bool.false_eq_true, Bool.not_true, Bool.not_false, retv_ok, isi_int, isi_bool, isi_tup, bLen, seqV, seqP_t, seqP_l, lstP, intsV, eq_i, ne_i, le_i, lt_i, gt_i, ge_i, add_i, sub_i, itemsOf, enumOf, Int.cast_ofNat_Int, Int.natCast_one, List.length_map, Int.reduceEq, Int.reduceLT, Int.reduceLE, e0, eq_loans, retv_ok hS, decide_true]
theorem check_loans_i (hS : Cl S) (d : Nat) {k L j : Nat} (h : LoansOk k L j) : callF T wn (d + 3) "check_loans_terms" [.d (loans k L j)] S = .ok (.d .none) S := by
  rw [callF_eq t.check_loans rfl, C.t_check_loans_terms]
  have e1 : ixP (.tuple [.str "loans", .int k, .int L, .int j]) (.int 1) = some (.int k) := rfl
  have e2 : ixP (.tuple [.str "loans", .int k, .int L, .int j]) (.int 2) = some (.int L) := rfl
  have e3 : ixP (.tuple [.str "loans", .int k, .int L, .int j]) (.int 3) = some (.int j) := rfl
  have c1 : (1 : Int) ≤ (k : Int) := by have := h.k1; omega
  have c2 : (k : Int) ≤ 20 := by have := h.k20; omega
  have c3 : (1 : Int) ≤ (L : Int) := by have := h.l1; omega
  have c4 : (L : Int) ≤ 200 := by have := h.l200; omega
  have c5 : (0 : Int) ≤ (j : Int) := by omega
  have c6 : (j : Int) ≤ (L : Int) := by have := h.jl; omega
  simp only [loans, startL, List.map_cons, List.map_nil, List.length_cons, List.length_nil, List.replicate, List.replicate_succ, List.replicate_zero, List.cons_append, List.nil_append, List.append_nil, Nat.reduceAdd, Nat.reduceSub, Nat.zero_add, ↓evalE_popAt, ↓evalI_range1, ↓evalI_range2, ↓evalE_mul, ↓evalE_mod, ↓evalE_fdiv, ↓evalE_pow, evalSs, evalS, evalE, evalEs, evalT, evalI, evalO, evalC, SRes.seq_next, SRes.seq_ret, SRes.seq_err, SRes.seq_brk, SRes.seq_cnt, SRes.seq_stuck, Res.bind_ok, Res.bind_err, Res.bind_stuck, Res.st_ok, Res.st_err, Res.st_stuck, ofO_some, ofO_none, asP_d, getV_z, getV_s, Option.bind_some, Option.map_some, Option.bind_none, Option.map_none, biP, on1, ints2, unD, mkL_f, mkL_t, plain_d, truthP, List.set_cons_zero, List.set_cons_succ, ofOS, unpackV, setAll, setAllD, bindT, ite_tru, ite_fls, if_true, if_false, reduceIte, Bool.false_eq_true, Bool.not_true, Bool.not_false, retv_ok, isi_int, isi_bool, isi_tup, bLen, seqV, seqP_t, seqP_l, lstP, intsV, eq_i, ne_i, le_i, lt_i, gt_i, ge_i, add_i, sub_i, itemsOf, enumOf, Int.cast_ofNat_Int, Int.natCast_one, List.length_map, Int.reduceEq, Int.reduceLT, Int.reduceLE, e1, e2, e3, is_within_i t.l.w hS, c1, c2, c3, c4, c5, c6, and_self, decide_true, next_ok hS]
theorem checked_terms_i (hS : Cl S) (d : Nat) (n : Nat) {k L j : Nat} (h : LoansOk k L j) : callF T wn (d + 4) "checked_terms" [.d (.int n), .d (loans k L j)] S = .ok (.d (loans k L j)) S := by
  rw [callF_eq t.checked_terms rfl, C.t_checked_terms]
  simp only [startL, List.map_cons, List.map_nil, List.length_cons, List.length_nil, List.replicate, List.replicate_succ, List.replicate_zero, List.cons_append, List.nil_append, List.append_nil, Nat.reduceAdd, Nat.reduceSub, Nat.zero_add, ↓evalE_popAt, ↓evalI_range1, ↓evalI_range2, ↓evalE_mul, ↓evalE_mod, ↓evalE_fdiv, ↓evalE_pow, evalSs, evalS, evalE, evalEs, evalT, evalI, evalO, evalC, SRes.seq_next, SRes.seq_ret, SRes.seq_err, SRes.seq_brk, SRes.seq_cnt, SRes.seq_stuck, Res.bind_ok, Res.bind_err, Res.bind_stuck, Res.st_ok, Res.st_err, Res.st_stuck, ofO_some, ofO_none, asP_d, getV_z, getV_s, Option.bind_some, Option.map_some, Option.bind_none, Option.map_none, biP, on1, ints2, unD, mkL_f, mkL_t, plain_d, truthP, List.set_cons_zero, List.set_cons_succ, ofOS, unpackV, setAll, setAllD, bindT, ite_tru, ite_fls, if_true, if_false, reduceIte, Bool.false_eq_true, Bool.not_true, Bool.not_false, retv_ok, begins_loans t hS, check_loans_i t hS _ h, fresh_loans t hS, retv_ok hS]
theorem made_terms_i (hS : Cl S) (d : Nat) {n : Nat} {ls : List Wy} (hw : WebOk n ls) (hl : ls.length < LIM) {k L j : Nat} (h : LoansOk k L j) : callF T wn (d + 5) "made_terms" [.d (web n ls), .d (loans k L j)] S = .ok (.d (loans k L j)) S := by
  rw [callF_eq t.made_terms rfl, C.t_made_terms]
  simp only [startL, List.map_cons, List.map_nil, List.length_cons, List.length_nil, List.replicate, List.replicate_succ, List.replicate_zero, List.cons_append, List.nil_append, List.append_nil, Nat.reduceAdd, Nat.reduceSub, Nat.zero_add, ↓evalE_popAt, ↓evalI_range1, ↓evalI_range2, ↓evalE_mul, ↓evalE_mod, ↓evalE_fdiv, ↓evalE_pow, evalSs, evalS, evalE, evalEs, evalT, evalI, evalO, evalC, SRes.seq_next, SRes.seq_ret, SRes.seq_err, SRes.seq_brk, SRes.seq_cnt, SRes.seq_stuck, Res.bind_ok, Res.bind_err, Res.bind_stuck, Res.st_ok, Res.st_err, Res.st_stuck, ofO_some, ofO_none, asP_d, getV_z, getV_s, Option.bind_some, Option.map_some, Option.bind_none, Option.map_none, biP, on1, ints2, unD, mkL_f, mkL_t, plain_d, truthP, List.set_cons_zero, List.set_cons_succ, ofOS, unpackV, setAll, setAllD, bindT, ite_tru, ite_fls, if_true, if_false, reduceIte, Bool.false_eq_true, Bool.not_true, Bool.not_false, retv_ok, made_web_i t.l.w hS _ hw (Nat.le_of_lt hl)]
  simp only [web, ↓evalE_popAt, ↓evalI_range1, ↓evalI_range2, ↓evalE_mul, ↓evalE_mod, ↓evalE_fdiv, ↓evalE_pow, evalSs, evalS, evalE, evalEs, evalT, evalI, evalO, evalC, SRes.seq_next, SRes.seq_ret, SRes.seq_err, SRes.seq_brk, SRes.seq_cnt, SRes.seq_stuck, Res.bind_ok, Res.bind_err, Res.bind_stuck, Res.st_ok, Res.st_err, Res.st_stuck, ofO_some, ofO_none, asP_d, getV_z, getV_s, Option.bind_some, Option.map_some, Option.bind_none, Option.map_none, biP, on1, ints2, unD, mkL_f, mkL_t, plain_d, truthP, List.set_cons_zero, List.set_cons_succ, ofOS, unpackV, setAll, setAllD, bindT, ite_tru, ite_fls, if_true, if_false, reduceIte, Bool.false_eq_true, Bool.not_true, Bool.not_false, retv_ok, checked_terms_i t hS _ _ h, retv_ok hS]
theorem are_loans_i (hS : Cl S) (d k L j : Nat) : callF T wn (d + 1) "are_loans" [.d (loans k L j)] S = .ok (.d (.bool true)) S := by
  rw [callF_eq t.are_loans rfl, C.t_are_loans]
  have e0 : ixP (.tuple [.str "loans", .int k, .int L, .int j]) (.int 0) = some (.str "loans") := rfl
  simp only [loans, startL, List.map_cons, List.map_nil, List.length_cons, List.length_nil, List.replicate, List.replicate_succ, List.replicate_zero, List.cons_append, List.nil_append, List.append_nil, Nat.reduceAdd, Nat.reduceSub, Nat.zero_add, ↓evalE_popAt, ↓evalI_range1, ↓evalI_range2, ↓evalE_mul, ↓evalE_mod, ↓evalE_fdiv, ↓evalE_pow, evalSs, evalS, evalE, evalEs, evalT, evalI, evalO, evalC, SRes.seq_next, SRes.seq_ret, SRes.seq_err, SRes.seq_brk, SRes.seq_cnt, SRes.seq_stuck, Res.bind_ok, Res.bind_err, Res.bind_stuck, Res.st_ok, Res.st_err, Res.st_stuck, ofO_some, ofO_none, asP_d, getV_z, getV_s, Option.bind_some, Option.map_some, Option.bind_none, Option.map_none, biP, on1, ints2, unD, mkL_f, mkL_t, plain_d, truthP, List.set_cons_zero, List.set_cons_succ, ofOS, unpackV, setAll, setAllD, bindT, ite_tru, ite_fls, if_true, if_false, reduceIte, Bool.false_eq_true, Bool.not_true, Bool.not_false, retv_ok, isi_int, isi_bool, isi_tup, bLen, seqV, seqP_t, seqP_l, lstP, intsV, eq_i, ne_i, le_i, lt_i, gt_i, ge_i, add_i, sub_i, itemsOf, enumOf, Int.cast_ofNat_Int, Int.natCast_one, List.length_map, Int.reduceEq, Int.reduceLT, Int.reduceLE, e0, eq_loans, retv_ok hS, decide_true]
theorem three_i (hS : Cl S) (d k L j : Nat) : callF T wn (d + 2) "three_numbers" [.d (loans k L j)] S = .ok (.d (.tuple [.int k, .int L, .int j])) S := by
  rw [callF_eq t.three rfl, C.t_three_numbers]
  have e1 : cutP [.str "loans", .int k, .int L, .int j] (some 1) none = [.int k, .int L, .int j] := rfl
  simp only [startL, List.map_cons, List.map_nil, List.length_cons, List.length_nil, List.replicate, List.replicate_succ, List.replicate_zero, List.cons_append, List.nil_append, List.append_nil, Nat.reduceAdd, Nat.reduceSub, Nat.zero_add, ↓evalE_popAt, ↓evalI_range1, ↓evalI_range2, ↓evalE_mul, ↓evalE_mod, ↓evalE_fdiv, ↓evalE_pow, evalSs, evalS, evalE, evalEs, evalT, evalI, evalO, evalC, SRes.seq_next, SRes.seq_ret, SRes.seq_err, SRes.seq_brk, SRes.seq_cnt, SRes.seq_stuck, Res.bind_ok, Res.bind_err, Res.bind_stuck, Res.st_ok, Res.st_err, Res.st_stuck, ofO_some, ofO_none, asP_d, getV_z, getV_s, Option.bind_some, Option.map_some, Option.bind_none, Option.map_none, biP, on1, ints2, unD, mkL_f, mkL_t, plain_d, truthP, List.set_cons_zero, List.set_cons_succ, ofOS, unpackV, setAll, setAllD, bindT, ite_tru, ite_fls, if_true, if_false, reduceIte, Bool.false_eq_true, Bool.not_true, Bool.not_false, retv_ok, are_loans_i t hS]
  simp only [loans, ↓evalE_popAt, ↓evalI_range1, ↓evalI_range2, ↓evalE_mul, ↓evalE_mod, ↓evalE_fdiv, ↓evalE_pow, evalSs, evalS, evalE, evalEs, evalT, evalI, evalO, evalC, SRes.seq_next, SRes.seq_ret, SRes.seq_err, SRes.seq_brk, SRes.seq_cnt, SRes.seq_stuck, Res.bind_ok, Res.bind_err, Res.bind_stuck, Res.st_ok, Res.st_err, Res.st_stuck, ofO_some, ofO_none, asP_d, getV_z, getV_s, Option.bind_some, Option.map_some, Option.bind_none, Option.map_none, biP, on1, ints2, unD, mkL_f, mkL_t, plain_d, truthP, List.set_cons_zero, List.set_cons_succ, ofOS, unpackV, setAll, setAllD, bindT, ite_tru, ite_fls, if_true, if_false, reduceIte, Bool.false_eq_true, Bool.not_true, Bool.not_false, retv_ok, e1, retv_ok hS]
theorem in_all_i (hS : Cl S) (d : Nat) {l : List Wy} (hl : l.length ≤ LIM) : callF T wn (d + 1) "days_in_all" [.d (.list (wys l))] S = .ok (.d (.int (days l : Nat))) S := by
  rw [callF_eq t.in_all rfl, C.t_days_in_all]
  simp only [startL, List.map_cons, List.map_nil, List.length_cons, List.length_nil, List.replicate, List.replicate_succ, List.replicate_zero, List.cons_append, List.nil_append, List.append_nil, Nat.reduceAdd, Nat.reduceSub, Nat.zero_add, ↓evalE_popAt, ↓evalI_range1, ↓evalI_range2, ↓evalE_mul, ↓evalE_mod, ↓evalE_fdiv, ↓evalE_pow, evalSs, evalS, evalE, evalEs, evalT, evalI, evalO, evalC, SRes.seq_next, SRes.seq_ret, SRes.seq_err, SRes.seq_brk, SRes.seq_cnt, SRes.seq_stuck, Res.bind_ok, Res.bind_err, Res.bind_stuck, Res.st_ok, Res.st_err, Res.st_stuck, ofO_some, ofO_none, asP_d, getV_z, getV_s, Option.bind_some, Option.map_some, Option.bind_none, Option.map_none, biP, on1, ints2, unD, mkL_f, mkL_t, plain_d, truthP, List.set_cons_zero, List.set_cons_succ, ofOS, unpackV, setAll, setAllD, bindT, ite_tru, ite_fls, if_true, if_false, reduceIte, Bool.false_eq_true, Bool.not_true, Bool.not_false, retv_ok, isi_int, isi_bool, isi_tup, bLen, seqV, seqP_t, seqP_l, lstP, intsV, eq_i, ne_i, le_i, lt_i, gt_i, ge_i, add_i, sub_i, itemsOf, enumOf, Int.cast_ofNat_Int, Int.natCast_one, List.length_map, Int.reduceEq, Int.reduceLT, Int.reduceLE, wys_len, if_pos hl]
  rw [comp_map (g := fun x => match x with
    | .tuple [_, _, c] => c
    | y => y) rfl]
  · have e : (wys l).map (fun x => match x with
      | .tuple [_, _, c] => c
      | y => y) = l.map fun w => .int (w.2.2 : Nat) := by unfold wys; rw [List.map_map]; rfl
    simp only [noErr_ok, ↓evalE_popAt, ↓evalI_range1, ↓evalI_range2, ↓evalE_mul, ↓evalE_mod, ↓evalE_fdiv, ↓evalE_pow, evalSs, evalS, evalE, evalEs, evalT, evalI, evalO, evalC, SRes.seq_next, SRes.seq_ret, SRes.seq_err, SRes.seq_brk, SRes.seq_cnt, SRes.seq_stuck, Res.bind_ok, Res.bind_err, Res.bind_stuck, Res.st_ok, Res.st_err, Res.st_stuck, ofO_some, ofO_none, asP_d, getV_z, getV_s, Option.bind_some, Option.map_some, Option.bind_none, Option.map_none, biP, on1, ints2, unD, mkL_f, mkL_t, plain_d, truthP, List.set_cons_zero, List.set_cons_succ, ofOS, unpackV, setAll, setAllD, bindT, ite_tru, ite_fls, if_true, if_false, reduceIte, Bool.false_eq_true, Bool.not_true, Bool.not_false, retv_ok, isi_int, isi_bool, isi_tup, bLen, seqV, seqP_t, seqP_l, lstP, intsV, eq_i, ne_i, le_i, lt_i, gt_i, ge_i, add_i, sub_i, itemsOf, enumOf, Int.cast_ofNat_Int, Int.natCast_one, List.length_map, Int.reduceEq, Int.reduceLT, Int.reduceLE, e, List.nil_append, sumI_days, retv_ok hS]
  · intro x hx
    obtain ⟨w, _, rfl⟩ := List.mem_map.mp hx
    have e2 : ixP (wy w) (.int 2) = some (.int w.2.2) := rfl
    simp only [compF, wipeL, ↓evalE_popAt, ↓evalI_range1, ↓evalI_range2, ↓evalE_mul, ↓evalE_mod, ↓evalE_fdiv, ↓evalE_pow, evalSs, evalS, evalE, evalEs, evalT, evalI, evalO, evalC, SRes.seq_next, SRes.seq_ret, SRes.seq_err, SRes.seq_brk, SRes.seq_cnt, SRes.seq_stuck, Res.bind_ok, Res.bind_err, Res.bind_stuck, Res.st_ok, Res.st_err, Res.st_stuck, ofO_some, ofO_none, asP_d, getV_z, getV_s, Option.bind_some, Option.map_some, Option.bind_none, Option.map_none, biP, on1, ints2, unD, mkL_f, mkL_t, plain_d, truthP, List.set_cons_zero, List.set_cons_succ, ofOS, unpackV, setAll, setAllD, bindT, ite_tru, ite_fls, if_true, if_false, reduceIte, Bool.false_eq_true, Bool.not_true, Bool.not_false, retv_ok, e2]
    rfl
theorem longest_i (hS : Cl S) (d : Nat) {l : List Wy} (hl : l.length ≤ LIM) : callF T wn (d + 1) "days_of_longest" [.d (.list (wys l))] S = .ok (.d (.int (mx l : Nat))) S := by
  rw [callF_eq t.longest rfl, C.t_days_of_longest]
  simp only [startL, List.map_cons, List.map_nil, List.length_cons, List.length_nil, List.replicate, List.replicate_succ, List.replicate_zero, List.cons_append, List.nil_append, List.append_nil, Nat.reduceAdd, Nat.reduceSub, Nat.zero_add, ↓evalE_popAt, ↓evalI_range1, ↓evalI_range2, ↓evalE_mul, ↓evalE_mod, ↓evalE_fdiv, ↓evalE_pow, evalSs, evalS, evalE, evalEs, evalT, evalI, evalO, evalC, SRes.seq_next, SRes.seq_ret, SRes.seq_err, SRes.seq_brk, SRes.seq_cnt, SRes.seq_stuck, Res.bind_ok, Res.bind_err, Res.bind_stuck, Res.st_ok, Res.st_err, Res.st_stuck, ofO_some, ofO_none, asP_d, getV_z, getV_s, Option.bind_some, Option.map_some, Option.bind_none, Option.map_none, biP, on1, ints2, unD, mkL_f, mkL_t, plain_d, truthP, List.set_cons_zero, List.set_cons_succ, ofOS, unpackV, setAll, setAllD, bindT, ite_tru, ite_fls, if_true, if_false, reduceIte, Bool.false_eq_true, Bool.not_true, Bool.not_false, retv_ok, isi_int, isi_bool, isi_tup, bLen, seqV, seqP_t, seqP_l, lstP, intsV, eq_i, ne_i, le_i, lt_i, gt_i, ge_i, add_i, sub_i, itemsOf, enumOf, Int.cast_ofNat_Int, Int.natCast_one, List.length_map, Int.reduceEq, Int.reduceLT, Int.reduceLE, wys_len, if_pos hl]
  rw [comp_map (g := fun x => match x with
    | .tuple [_, _, c] => c
    | y => y) rfl]
  · have e : (wys l).map (fun x => match x with
      | .tuple [_, _, c] => c
      | y => y) = l.map fun w => .int (w.2.2 : Nat) := by unfold wys; rw [List.map_map]; rfl
    simp only [noErr_ok, ↓evalE_popAt, ↓evalI_range1, ↓evalI_range2, ↓evalE_mul, ↓evalE_mod, ↓evalE_fdiv, ↓evalE_pow, evalSs, evalS, evalE, evalEs, evalT, evalI, evalO, evalC, SRes.seq_next, SRes.seq_ret, SRes.seq_err, SRes.seq_brk, SRes.seq_cnt, SRes.seq_stuck, Res.bind_ok, Res.bind_err, Res.bind_stuck, Res.st_ok, Res.st_err, Res.st_stuck, ofO_some, ofO_none, asP_d, getV_z, getV_s, Option.bind_some, Option.map_some, Option.bind_none, Option.map_none, biP, on1, ints2, unD, mkL_f, mkL_t, plain_d, truthP, List.set_cons_zero, List.set_cons_succ, ofOS, unpackV, setAll, setAllD, bindT, ite_tru, ite_fls, if_true, if_false, reduceIte, Bool.false_eq_true, Bool.not_true, Bool.not_false, retv_ok, isi_int, isi_bool, isi_tup, bLen, seqV, seqP_t, seqP_l, lstP, intsV, eq_i, ne_i, le_i, lt_i, gt_i, ge_i, add_i, sub_i, itemsOf, enumOf, Int.cast_ofNat_Int, Int.natCast_one, List.length_map, Int.reduceEq, Int.reduceLT, Int.reduceLE, e, List.nil_append, bDef, intsOf_days, retv_ok hS]
    by_cases h : l = []
    · subst h
      simp only [List.map_nil, maxI, mx, ↓evalE_popAt, ↓evalI_range1, ↓evalI_range2, ↓evalE_mul, ↓evalE_mod, ↓evalE_fdiv, ↓evalE_pow, evalSs, evalS, evalE, evalEs, evalT, evalI, evalO, evalC, SRes.seq_next, SRes.seq_ret, SRes.seq_err, SRes.seq_brk, SRes.seq_cnt, SRes.seq_stuck, Res.bind_ok, Res.bind_err, Res.bind_stuck, Res.st_ok, Res.st_err, Res.st_stuck, ofO_some, ofO_none, asP_d, getV_z, getV_s, Option.bind_some, Option.map_some, Option.bind_none, Option.map_none, biP, on1, ints2, unD, mkL_f, mkL_t, plain_d, truthP, List.set_cons_zero, List.set_cons_succ, ofOS, unpackV, setAll, setAllD, bindT, ite_tru, ite_fls, if_true, if_false, reduceIte, Bool.false_eq_true, Bool.not_true, Bool.not_false, retv_ok, retv_ok hS]
      rfl
    · simp only [maxI_days l h, ↓evalE_popAt, ↓evalI_range1, ↓evalI_range2, ↓evalE_mul, ↓evalE_mod, ↓evalE_fdiv, ↓evalE_pow, evalSs, evalS, evalE, evalEs, evalT, evalI, evalO, evalC, SRes.seq_next, SRes.seq_ret, SRes.seq_err, SRes.seq_brk, SRes.seq_cnt, SRes.seq_stuck, Res.bind_ok, Res.bind_err, Res.bind_stuck, Res.st_ok, Res.st_err, Res.st_stuck, ofO_some, ofO_none, asP_d, getV_z, getV_s, Option.bind_some, Option.map_some, Option.bind_none, Option.map_none, biP, on1, ints2, unD, mkL_f, mkL_t, plain_d, truthP, List.set_cons_zero, List.set_cons_succ, ofOS, unpackV, setAll, setAllD, bindT, ite_tru, ite_fls, if_true, if_false, reduceIte, Bool.false_eq_true, Bool.not_true, Bool.not_false, retv_ok, retv_ok hS]
  · intro x hx
    obtain ⟨w, _, rfl⟩ := List.mem_map.mp hx
    have e2 : ixP (wy w) (.int 2) = some (.int w.2.2) := rfl
    simp only [compF, wipeL, ↓evalE_popAt, ↓evalI_range1, ↓evalI_range2, ↓evalE_mul, ↓evalE_mod, ↓evalE_fdiv, ↓evalE_pow, evalSs, evalS, evalE, evalEs, evalT, evalI, evalO, evalC, SRes.seq_next, SRes.seq_ret, SRes.seq_err, SRes.seq_brk, SRes.seq_cnt, SRes.seq_stuck, Res.bind_ok, Res.bind_err, Res.bind_stuck, Res.st_ok, Res.st_err, Res.st_stuck, ofO_some, ofO_none, asP_d, getV_z, getV_s, Option.bind_some, Option.map_some, Option.bind_none, Option.map_none, biP, on1, ints2, unD, mkL_f, mkL_t, plain_d, truthP, List.set_cons_zero, List.set_cons_succ, ofOS, unpackV, setAll, setAllD, bindT, ite_tru, ite_fls, if_true, if_false, reduceIte, Bool.false_eq_true, Bool.not_true, Bool.not_false, retv_ok, e2]
    rfl
/-- the five numbers -/
def five (k L j T M : Nat) : PyData := .tuple [.int k, .int T, .int M, .int L, .int j]
theorem summands_by_i (hS : Cl S) (d k L j : Nat) {l : List Wy} (hl : l.length ≤ LIM) : callF T wn (d + 3) "summands_by" [.d (loans k L j), .d (.list (wys l))] S = .ok (.d (five k L j (days l) (mx l))) S := by
  rw [callF_eq t.summands_by rfl, C.t_summands_by]
  simp only [startL, List.map_cons, List.map_nil, List.length_cons, List.length_nil, List.replicate, List.replicate_succ, List.replicate_zero, List.cons_append, List.nil_append, List.append_nil, Nat.reduceAdd, Nat.reduceSub, Nat.zero_add, ↓evalE_popAt, ↓evalI_range1, ↓evalI_range2, ↓evalE_mul, ↓evalE_mod, ↓evalE_fdiv, ↓evalE_pow, evalSs, evalS, evalE, evalEs, evalT, evalI, evalO, evalC, SRes.seq_next, SRes.seq_ret, SRes.seq_err, SRes.seq_brk, SRes.seq_cnt, SRes.seq_stuck, Res.bind_ok, Res.bind_err, Res.bind_stuck, Res.st_ok, Res.st_err, Res.st_stuck, ofO_some, ofO_none, asP_d, getV_z, getV_s, Option.bind_some, Option.map_some, Option.bind_none, Option.map_none, biP, on1, ints2, unD, mkL_f, mkL_t, plain_d, truthP, List.set_cons_zero, List.set_cons_succ, ofOS, unpackV, setAll, setAllD, bindT, ite_tru, ite_fls, if_true, if_false, reduceIte, Bool.false_eq_true, Bool.not_true, Bool.not_false, retv_ok, three_i t hS, in_all_i t hS _ hl, longest_i t hS _ hl, retv_ok hS]
  rfl
theorem reserve_by_i (hS : Cl S) (d k L j T' M : Nat) : callF T wn (d + 1) "reserve_by" [.d (five k L j T' M)] S = .ok (.d (.int ((L : Int) + if (M : Int) - (j : Int) > 0 then (M : Int) - (j : Int) else 0))) S := by
  rw [callF_eq t.reserve_by rfl, C.t_reserve_by]
  have e1 : cutP [.int k, .int T', .int M, .int L, .int j] (some 2) none = [.int M, .int L, .int j] := rfl
  simp only [five, startL, List.map_cons, List.map_nil, List.length_cons, List.length_nil, List.replicate, List.replicate_succ, List.replicate_zero, List.cons_append, List.nil_append, List.append_nil, Nat.reduceAdd, Nat.reduceSub, Nat.zero_add, ↓evalE_popAt, ↓evalI_range1, ↓evalI_range2, ↓evalE_mul, ↓evalE_mod, ↓evalE_fdiv, ↓evalE_pow, evalSs, evalS, evalE, evalEs, evalT, evalI, evalO, evalC, SRes.seq_next, SRes.seq_ret, SRes.seq_err, SRes.seq_brk, SRes.seq_cnt, SRes.seq_stuck, Res.bind_ok, Res.bind_err, Res.bind_stuck, Res.st_ok, Res.st_err, Res.st_stuck, ofO_some, ofO_none, asP_d, getV_z, getV_s, Option.bind_some, Option.map_some, Option.bind_none, Option.map_none, biP, on1, ints2, unD, mkL_f, mkL_t, plain_d, truthP, List.set_cons_zero, List.set_cons_succ, ofOS, unpackV, setAll, setAllD, bindT, ite_tru, ite_fls, if_true, if_false, reduceIte, Bool.false_eq_true, Bool.not_true, Bool.not_false, retv_ok, isi_int, isi_bool, isi_tup, bLen, seqV, seqP_t, seqP_l, lstP, intsV, eq_i, ne_i, le_i, lt_i, gt_i, ge_i, add_i, sub_i, itemsOf, enumOf, Int.cast_ofNat_Int, Int.natCast_one, List.length_map, Int.reduceEq, Int.reduceLT, Int.reduceLE, e1, retv_ok hS]
theorem crates_by_i (hS : Cl S) (d k L j T' M : Nat) (hk : k ≤ 20) : callF T wn (d + 2) "crates_by" [.d (five k L j T' M)] S = .ok (.d (.int (need k L j T' M))) S := by
  rw [callF_eq t.crates_by rfl, C.t_crates_by]
  have e0 : ixP (five k L j T' M) (.int 0) = some (.int k) := rfl
  have e1 : ixP (five k L j T' M) (.int 1) = some (.int T') := rfl
  have hm := mul_l (a := (k : Int)) (Sm.of (by omega) (by omega))
  simp only [startL, List.map_cons, List.map_nil, List.length_cons, List.length_nil, List.replicate, List.replicate_succ, List.replicate_zero, List.cons_append, List.nil_append, List.append_nil, Nat.reduceAdd, Nat.reduceSub, Nat.zero_add, ↓evalE_popAt, ↓evalI_range1, ↓evalI_range2, ↓evalE_mul, ↓evalE_mod, ↓evalE_fdiv, ↓evalE_pow, evalSs, evalS, evalE, evalEs, evalT, evalI, evalO, evalC, SRes.seq_next, SRes.seq_ret, SRes.seq_err, SRes.seq_brk, SRes.seq_cnt, SRes.seq_stuck, Res.bind_ok, Res.bind_err, Res.bind_stuck, Res.st_ok, Res.st_err, Res.st_stuck, ofO_some, ofO_none, asP_d, getV_z, getV_s, Option.bind_some, Option.map_some, Option.bind_none, Option.map_none, biP, on1, ints2, unD, mkL_f, mkL_t, plain_d, truthP, List.set_cons_zero, List.set_cons_succ, ofOS, unpackV, setAll, setAllD, bindT, ite_tru, ite_fls, if_true, if_false, reduceIte, Bool.false_eq_true, Bool.not_true, Bool.not_false, retv_ok, isi_int, isi_bool, isi_tup, bLen, seqV, seqP_t, seqP_l, lstP, intsV, eq_i, ne_i, le_i, lt_i, gt_i, ge_i, add_i, sub_i, itemsOf, enumOf, Int.cast_ofNat_Int, Int.natCast_one, List.length_map, Int.reduceEq, Int.reduceLT, Int.reduceLE, e0, e1, reserve_by_i t hS, hm, retv_ok hS, need]
theorem summands_i (hS : Cl S) (d : Nat) {n : Nat} {ls : List Wy} (hw : WebOk n ls) (hl : ls.length < LIM) {k L j : Nat} (h : LoansOk k L j) : callF T wn (d + 6) "summands" [.d (web n ls), .d (loans k L j)] S = .ok (.d (five k L j (days (least ls)) (mx (least ls)))) S := by
  have h2 : (least ls).length ≤ LIM := Nat.le_trans (Nat.le_trans kr_sub.length_le (Nat.le_of_eq sortD_perm.length_eq)) (Nat.le_of_lt hl)
  rw [callF_eq t.summands rfl, C.t_summands]
  simp only [startL, List.map_cons, List.map_nil, List.length_cons, List.length_nil, List.replicate, List.replicate_succ, List.replicate_zero, List.cons_append, List.nil_append, List.append_nil, Nat.reduceAdd, Nat.reduceSub, Nat.zero_add, ↓evalE_popAt, ↓evalI_range1, ↓evalI_range2, ↓evalE_mul, ↓evalE_mod, ↓evalE_fdiv, ↓evalE_pow, evalSs, evalS, evalE, evalEs, evalT, evalI, evalO, evalC, SRes.seq_next, SRes.seq_ret, SRes.seq_err, SRes.seq_brk, SRes.seq_cnt, SRes.seq_stuck, Res.bind_ok, Res.bind_err, Res.bind_stuck, Res.st_ok, Res.st_err, Res.st_stuck, ofO_some, ofO_none, asP_d, getV_z, getV_s, Option.bind_some, Option.map_some, Option.bind_none, Option.map_none, biP, on1, ints2, unD, mkL_f, mkL_t, plain_d, truthP, List.set_cons_zero, List.set_cons_succ, ofOS, unpackV, setAll, setAllD, bindT, ite_tru, ite_fls, if_true, if_false, reduceIte, Bool.false_eq_true, Bool.not_true, Bool.not_false, retv_ok, made_terms_i t hS _ hw hl h, made_web_i t.l.w hS _ hw (Nat.le_of_lt hl)]
  simp only [web, ↓evalE_popAt, ↓evalI_range1, ↓evalI_range2, ↓evalE_mul, ↓evalE_mod, ↓evalE_fdiv, ↓evalE_pow, evalSs, evalS, evalE, evalEs, evalT, evalI, evalO, evalC, SRes.seq_next, SRes.seq_ret, SRes.seq_err, SRes.seq_brk, SRes.seq_cnt, SRes.seq_stuck, Res.bind_ok, Res.bind_err, Res.bind_stuck, Res.st_ok, Res.st_err, Res.st_stuck, ofO_some, ofO_none, asP_d, getV_z, getV_s, Option.bind_some, Option.map_some, Option.bind_none, Option.map_none, biP, on1, ints2, unD, mkL_f, mkL_t, plain_d, truthP, List.set_cons_zero, List.set_cons_succ, ofOS, unpackV, setAll, setAllD, bindT, ite_tru, ite_fls, if_true, if_false, reduceIte, Bool.false_eq_true, Bool.not_true, Bool.not_false, retv_ok, least_legs_i t.l hS _ hw.below (by have := hw.n40; omega) hl _ (.inl rfl), summands_by_i t hS _ _ _ _ h2, retv_ok hS]
theorem needed_i (hS : Cl S) (d : Nat) {n : Nat} {ls : List Wy} (hw : WebOk n ls) (hl : ls.length < LIM) {k L j : Nat} (h : LoansOk k L j) : callF T wn (d + 7) "needed" [.d (web n ls), .d (loans k L j)] S = .ok (.d (.int (need k L j (days (least ls)) (mx (least ls))))) S := by
  rw [callF_eq t.needed rfl, C.t_needed]
  simp only [startL, List.map_cons, List.map_nil, List.length_cons, List.length_nil, List.replicate, List.replicate_succ, List.replicate_zero, List.cons_append, List.nil_append, List.append_nil, Nat.reduceAdd, Nat.reduceSub, Nat.zero_add, ↓evalE_popAt, ↓evalI_range1, ↓evalI_range2, ↓evalE_mul, ↓evalE_mod, ↓evalE_fdiv, ↓evalE_pow, evalSs, evalS, evalE, evalEs, evalT, evalI, evalO, evalC, SRes.seq_next, SRes.seq_ret, SRes.seq_err, SRes.seq_brk, SRes.seq_cnt, SRes.seq_stuck, Res.bind_ok, Res.bind_err, Res.bind_stuck, Res.st_ok, Res.st_err, Res.st_stuck, ofO_some, ofO_none, asP_d, getV_z, getV_s, Option.bind_some, Option.map_some, Option.bind_none, Option.map_none, biP, on1, ints2, unD, mkL_f, mkL_t, plain_d, truthP, List.set_cons_zero, List.set_cons_succ, ofOS, unpackV, setAll, setAllD, bindT, ite_tru, ite_fls, if_true, if_false, reduceIte, Bool.false_eq_true, Bool.not_true, Bool.not_false, retv_ok, summands_i t hS _ hw hl h, crates_by_i t hS _ _ _ _ _ _ h.k20, retv_ok hS]
end EvP
end
section
set_option maxRecDepth 100000
set_option maxHeartbeats 1000000
/-! EvP5: a place more; a law's own least tree. -/
namespace EvP
open Ev PySem L2 MW
abbrev Row := List (Nat × Nat)
def pr (p : Nat × Nat) : PyData := .tuple [.int p.1, .int p.2]
def rowP (r : Row) : PyData := .tuple (r.map pr)
structure RowOk (n : Nat) (r : Row) : Prop where
  ne : r ≠ []
  ok : ∀ p, p ∈ r → p.1 < n ∧ 1 ≤ p.2 ∧ p.2 ≤ 200
  ord : r.Pairwise fun a b => a.1 < b.1
def rowW (n : Nat) (r : Row) : List Wy := r.map fun p => (p.1, n, p.2)
structure TGn (T : String → Option Fn) : Prop where
  n : TN T
  is_place : T "is_place" = some C.t_is_place
  with_place : T "with_place" = some C.t_with_place
  check_row : T "_check_row" = some C.t__check_row
  check_loans : T "check_loans_worths" = some C.t_check_loans_worths
  place_gain : T "place_gain" = some C.t_place_gain
theorem lay_prs : ∀ r : Row, PyData.canLayAll0 (r.map pr) = true ∧ PyData.depthAll (r.map pr) ≤ 1
  | [] => ⟨rfl, Nat.zero_le _⟩
  | p :: r => by
    have ih := lay_prs r
    refine ⟨?_, ?_⟩
    · rw [List.map_cons, PyData.canLayAll0, ih.1]
      simp [pr, PyData.canLay0, PyData.canLayAll0]
    · rw [List.map_cons, PyData.depthAll]
      have : PyData.depth (pr p) ≤ 1 := by simp [pr, PyData.depth, PyData.depthAll]
      omega
theorem row_ne {r : Row} (h : r ≠ []) : cmpP .eq (rowP r) (.tuple []) = some false := by
  have hl := lay_prs r
  show (if SeqAt.shaped (rowP r) = true ∧ SeqAt.shaped (.tuple []) = true then some (PyData.eqv (rowP r) (.tuple [])) else none) = _
  have s1 : SeqAt.shaped (rowP r) = true := by
    unfold SeqAt.shaped rowP
    rw [Bool.and_eq_true]
    refine ⟨by rw [PyData.canLay0]; exact hl.1, ?_⟩
    rw [PyData.depth]
    exact decide_eq_true (by omega)
  rw [if_pos ⟨s1, by decide +kernel⟩]
  cases r with
  | nil => exact absurd rfl h
  | cons p r => unfold rowP; rw [List.map_cons, PyData.eqv, PyData.eqvAll]
variable {T : String → Option Fn} {wn : Nat} {S : Sto} (t : TGn T)
include t
theorem check_row_i (hS : Cl S) (d : Nat) {n : Nat} {r : Row} (h : RowOk n r) : callF T wn (d + 4) "_check_row" [.d (.int n), .d (rowP r)] S = .ok (.d .none) S := by
  rw [callF_eq t.check_row rfl, C.t__check_row]
  have e0 : isiP "tuple" (rowP r) = some true := rfl
  have e1 : itemsOf S (.d (rowP r)) = some ⟨r.map pr, none⟩ := rfl
  simp only [startL, List.map_cons, List.map_nil, List.length_cons, List.length_nil, List.replicate, List.replicate_succ, List.replicate_zero, List.cons_append, List.nil_append, List.append_nil, Nat.reduceAdd, Nat.reduceSub, Nat.zero_add, ↓evalE_popAt, ↓evalI_range1, ↓evalI_range2, ↓evalE_mul, ↓evalE_mod, ↓evalE_fdiv, ↓evalE_pow, evalSs, evalS, evalE, evalEs, evalT, evalI, evalO, evalC, SRes.seq_next, SRes.seq_ret, SRes.seq_err, SRes.seq_brk, SRes.seq_cnt, SRes.seq_stuck, Res.bind_ok, Res.bind_err, Res.bind_stuck, Res.st_ok, Res.st_err, Res.st_stuck, ofO_some, ofO_none, asP_d, getV_z, getV_s, Option.bind_some, Option.map_some, Option.bind_none, Option.map_none, biP, on1, ints2, unD, mkL_f, mkL_t, plain_d, truthP, List.set_cons_zero, List.set_cons_succ, ofOS, unpackV, setAll, setAllD, bindT, ite_tru, ite_fls, if_true, if_false, reduceIte, Bool.false_eq_true, Bool.not_true, Bool.not_false, retv_ok, isi_int, isi_bool, isi_tup, bLen, seqV, seqP_t, seqP_l, lstP, intsV, eq_i, ne_i, le_i, lt_i, gt_i, ge_i, add_i, sub_i, itemsOf, enumOf, Int.cast_ofNat_Int, Int.natCast_one, List.length_map, Int.reduceEq, Int.reduceLT, Int.reduceLE, e0, e1, row_ne h.ne]
  refine for_then (P := fun x => outF false S.length x = _) (fun xs l S1 => ∃ (q : Row) (a : Int) (b : Option DV), xs = q.map pr ∧ l = [some (.d (.int n)), some (.d (rowP r)), some (.d (.int a)), b] ∧ S1 = S ∧ (∀ p, p ∈ q → p ∈ r) ∧ (∀ p, p ∈ q → a < (p.1 : Int)) ∧ q.Pairwise fun a b => a.1 < b.1)
    ⟨r, -1, none, rfl, rfl, rfl, fun _ m => m, fun _ _ => by omega, h.ord⟩ ?_ ?_
  · rintro x r' l S1 ⟨q, a, b, e1, e2, e3, hm, hp, ho⟩
    cases q with
    | nil => cases e1
    | cons p q =>
      cases e1
      rw [e2, e3]
      have ok := h.ok p (hm p (List.mem_cons_self ..))
      have hp1 := hp p (List.mem_cons_self ..)
      have i0 : ixP (pr p) (.int 0) = some (.int p.1) := rfl
      have i1 : ixP (pr p) (.int 1) = some (.int p.2) := rfl
      have q1 : callF T wn (d + 3) "is_numbers" [.d (pr p), .d (.int 2)] S = .ok (.d (.bool true)) S := is_numbers_2 t.n.l.w hS (d + 2) _ _
      have c1 : (0 : Int) ≤ (p.1 : Int) ∧ (p.1 : Int) ≤ (n : Int) - 1 := by omega
      have c2 : (1 : Int) ≤ (p.2 : Int) ∧ (p.2 : Int) ≤ 200 := by omega
      have c3 : ¬ (p.1 : Int) ≤ a := by omega
      simp only [forF, startL, List.map_cons, List.map_nil, List.length_cons, List.length_nil, List.replicate, List.replicate_succ, List.replicate_zero, List.cons_append, List.nil_append, List.append_nil, Nat.reduceAdd, Nat.reduceSub, Nat.zero_add, ↓evalE_popAt, ↓evalI_range1, ↓evalI_range2, ↓evalE_mul, ↓evalE_mod, ↓evalE_fdiv, ↓evalE_pow, evalSs, evalS, evalE, evalEs, evalT, evalI, evalO, evalC, SRes.seq_next, SRes.seq_ret, SRes.seq_err, SRes.seq_brk, SRes.seq_cnt, SRes.seq_stuck, Res.bind_ok, Res.bind_err, Res.bind_stuck, Res.st_ok, Res.st_err, Res.st_stuck, ofO_some, ofO_none, asP_d, getV_z, getV_s, Option.bind_some, Option.map_some, Option.bind_none, Option.map_none, biP, on1, ints2, unD, mkL_f, mkL_t, plain_d, truthP, List.set_cons_zero, List.set_cons_succ, ofOS, unpackV, setAll, setAllD, bindT, ite_tru, ite_fls, if_true, if_false, reduceIte, Bool.false_eq_true, Bool.not_true, Bool.not_false, retv_ok, isi_int, isi_bool, isi_tup, bLen, seqV, seqP_t, seqP_l, lstP, intsV, eq_i, ne_i, le_i, lt_i, gt_i, ge_i, add_i, sub_i, itemsOf, enumOf, Int.cast_ofNat_Int, Int.natCast_one, List.length_map, Int.reduceEq, Int.reduceLT, Int.reduceLE, q1, i0, i1, is_place_i t.n.l.w t.is_place hS, is_within_i t.n.l.w hS, c1, c2, c3, and_self, decide_true, decide_false]
      refine ⟨_, _, rfl, rfl, q, (p.1 : Int), _, rfl, rfl, rfl, fun y m => hm y (List.mem_cons_of_mem _ m), fun y m => ?_, (List.pairwise_cons.mp ho).2⟩
      have := (List.pairwise_cons.mp ho).1 y m
      omega
  · rintro l S1 ⟨q, a, b, e1, e2, e3, hm, hp, ho⟩
    rw [e3]
    simp only [↓evalE_popAt, ↓evalI_range1, ↓evalI_range2, ↓evalE_mul, ↓evalE_mod, ↓evalE_fdiv, ↓evalE_pow, evalSs, evalS, evalE, evalEs, evalT, evalI, evalO, evalC, SRes.seq_next, SRes.seq_ret, SRes.seq_err, SRes.seq_brk, SRes.seq_cnt, SRes.seq_stuck, Res.bind_ok, Res.bind_err, Res.bind_stuck, Res.st_ok, Res.st_err, Res.st_stuck, ofO_some, ofO_none, asP_d, getV_z, getV_s, Option.bind_some, Option.map_some, Option.bind_none, Option.map_none, biP, on1, ints2, unD, mkL_f, mkL_t, plain_d, truthP, List.set_cons_zero, List.set_cons_succ, ofOS, unpackV, setAll, setAllD, bindT, ite_tru, ite_fls, if_true, if_false, reduceIte, Bool.false_eq_true, Bool.not_true, Bool.not_false, retv_ok, next_ok hS]
theorem with_place_i (hS : Cl S) (d : Nat) {n : Nat} {ls : List Wy} (hw : WebOk n ls) (hn : n < 40) (hl : ls.length + 40 ≤ LIM) {r : Row} (h : RowOk n r) (hr : r.length ≤ 40) :
    callF T wn (d + 5) "with_place" [.d (web n ls), .d (rowP r)] S = .ok (.d (web (n + 1) (sortU (ls ++ rowW n r)))) S := by
  rw [callF_eq t.with_place rfl, C.t_with_place]
  have e1 : seqP (rowP r) = some (r.map pr) := rfl
  have hl2 : (r.map pr).length ≤ LIM := by rw [List.length_map]; omega
  have c1 : ¬ (n : Int) = 40 := by omega
  simp only [startL, List.map_cons, List.map_nil, List.length_cons, List.length_nil, List.replicate, List.replicate_succ, List.replicate_zero, List.cons_append, List.nil_append, List.append_nil, Nat.reduceAdd, Nat.reduceSub, Nat.zero_add, ↓evalE_popAt, ↓evalI_range1, ↓evalI_range2, ↓evalE_mul, ↓evalE_mod, ↓evalE_fdiv, ↓evalE_pow, evalSs, evalS, evalE, evalEs, evalT, evalI, evalO, evalC, SRes.seq_next, SRes.seq_ret, SRes.seq_err, SRes.seq_brk, SRes.seq_cnt, SRes.seq_stuck, Res.bind_ok, Res.bind_err, Res.bind_stuck, Res.st_ok, Res.st_err, Res.st_stuck, ofO_some, ofO_none, asP_d, getV_z, getV_s, Option.bind_some, Option.map_some, Option.bind_none, Option.map_none, biP, on1, ints2, unD, mkL_f, mkL_t, plain_d, truthP, List.set_cons_zero, List.set_cons_succ, ofOS, unpackV, setAll, setAllD, bindT, ite_tru, ite_fls, if_true, if_false, reduceIte, Bool.false_eq_true, Bool.not_true, Bool.not_false, retv_ok, made_web_i t.n.l.w hS _ hw (by omega)]
  simp only [web, ↓evalE_popAt, ↓evalI_range1, ↓evalI_range2, ↓evalE_mul, ↓evalE_mod, ↓evalE_fdiv, ↓evalE_pow, evalSs, evalS, evalE, evalEs, evalT, evalI, evalO, evalC, SRes.seq_next, SRes.seq_ret, SRes.seq_err, SRes.seq_brk, SRes.seq_cnt, SRes.seq_stuck, Res.bind_ok, Res.bind_err, Res.bind_stuck, Res.st_ok, Res.st_err, Res.st_stuck, ofO_some, ofO_none, asP_d, getV_z, getV_s, Option.bind_some, Option.map_some, Option.bind_none, Option.map_none, biP, on1, ints2, unD, mkL_f, mkL_t, plain_d, truthP, List.set_cons_zero, List.set_cons_succ, ofOS, unpackV, setAll, setAllD, bindT, ite_tru, ite_fls, if_true, if_false, reduceIte, Bool.false_eq_true, Bool.not_true, Bool.not_false, retv_ok, isi_int, isi_bool, isi_tup, bLen, seqV, seqP_t, seqP_l, lstP, intsV, eq_i, ne_i, le_i, lt_i, gt_i, ge_i, add_i, sub_i, itemsOf, enumOf, Int.cast_ofNat_Int, Int.natCast_one, List.length_map, Int.reduceEq, Int.reduceLT, Int.reduceLE, check_row_i t hS _ h, c1, decide_false, e1, hl2, bNew, List.length_map] at hl2 ⊢
  rw [if_pos hl2]
  rw [comp_map (g := fun x => match x with
    | .tuple [p, d] => .tuple [p, .int n, d]
    | y => y) rfl]
  · have e : (r.map pr).map (fun x => match x with
      | .tuple [p, d] => .tuple [p, .int n, d]
      | y => y) = wys (rowW n r) := by unfold wys rowW; rw [List.map_map, List.map_map]; rfl
    have ha : binP .add (.list (wys ls)) (.list (wys (rowW n r))) = some (.list (wys (ls ++ rowW n r))) := by
      show (if (wys ls).length + (wys (rowW n r)).length ≤ LIM then some (PyData.list (wys ls ++ wys (rowW n r))) else none) = _
      rw [if_pos (by rw [wys_len, wys_len]; unfold rowW; rw [List.length_map]; omega)]
      unfold wys; rw [List.map_append]
    have hl3 : (ls ++ rowW n r).length ≤ LIM := by unfold rowW; rw [List.length_append, List.length_map]; omega
    simp only [noErr_ok, ↓evalE_popAt, ↓evalI_range1, ↓evalI_range2, ↓evalE_mul, ↓evalE_mod, ↓evalE_fdiv, ↓evalE_pow, evalSs, evalS, evalE, evalEs, evalT, evalI, evalO, evalC, SRes.seq_next, SRes.seq_ret, SRes.seq_err, SRes.seq_brk, SRes.seq_cnt, SRes.seq_stuck, Res.bind_ok, Res.bind_err, Res.bind_stuck, Res.st_ok, Res.st_err, Res.st_stuck, ofO_some, ofO_none, asP_d, getV_z, getV_s, Option.bind_some, Option.map_some, Option.bind_none, Option.map_none, biP, on1, ints2, unD, mkL_f, mkL_t, plain_d, truthP, List.set_cons_zero, List.set_cons_succ, ofOS, unpackV, setAll, setAllD, bindT, ite_tru, ite_fls, if_true, if_false, reduceIte, Bool.false_eq_true, Bool.not_true, Bool.not_false, retv_ok, isi_int, isi_bool, isi_tup, bLen, seqV, seqP_t, seqP_l, lstP, intsV, eq_i, ne_i, le_i, lt_i, gt_i, ge_i, add_i, sub_i, itemsOf, enumOf, Int.cast_ofNat_Int, Int.natCast_one, List.length_map, Int.reduceEq, Int.reduceLT, Int.reduceLE, e, List.nil_append, ha, bNew, sortedP_wys hl3, retv_ok hS]
    rfl
  · intro x hx
    obtain ⟨p, _, rfl⟩ := List.mem_map.mp hx
    simp only [compF, wipeL, pr, ↓evalE_popAt, ↓evalI_range1, ↓evalI_range2, ↓evalE_mul, ↓evalE_mod, ↓evalE_fdiv, ↓evalE_pow, evalSs, evalS, evalE, evalEs, evalT, evalI, evalO, evalC, SRes.seq_next, SRes.seq_ret, SRes.seq_err, SRes.seq_brk, SRes.seq_cnt, SRes.seq_stuck, Res.bind_ok, Res.bind_err, Res.bind_stuck, Res.st_ok, Res.st_err, Res.st_stuck, ofO_some, ofO_none, asP_d, getV_z, getV_s, Option.bind_some, Option.map_some, Option.bind_none, Option.map_none, biP, on1, ints2, unD, mkL_f, mkL_t, plain_d, truthP, List.set_cons_zero, List.set_cons_succ, ofOS, unpackV, setAll, setAllD, bindT, ite_tru, ite_fls, if_true, if_false, reduceIte, Bool.false_eq_true, Bool.not_true, Bool.not_false, retv_ok]
omit t in
/-- ways in order, no two between the same places -/
theorem strict_of {l : List Wy} (o : l.Pairwise fun a b => leU a b = true) (nd : l.Pairwise fun a b => ¬ (a.1 = b.1 ∧ a.2.1 = b.2.1)) : l.Pairwise fun a b => a.1 < b.1 ∨ (a.1 = b.1 ∧ a.2.1 < b.2.1) := by
  refine (o.and nd).imp ?_
  intro a b ⟨h, h2⟩
  rw [leU_iff] at h
  omega
omit t in
theorem strict_sort {l : List Wy} (nd : l.Pairwise fun a b => ¬ (a.1 = b.1 ∧ a.2.1 = b.2.1)) : (sortU l).Pairwise fun a b => a.1 < b.1 ∨ (a.1 = b.1 ∧ a.2.1 < b.2.1) :=
  strict_of sortU_ord (sortU_perm.symm.pairwise nd fun h => fun ⟨x, y⟩ => h ⟨x.symm, y.symm⟩)
omit t in
theorem webOk_place {n : Nat} {ls : List Wy} (hw : WebOk n ls) (hn : n < 40) {r : Row} (h : RowOk n r) : WebOk (n + 1) (sortU (ls ++ rowW n r)) := by
  have mem : ∀ w, w ∈ sortU (ls ++ rowW n r) → w ∈ ls ∨ ∃ p, p ∈ r ∧ w = (p.1, n, p.2) := fun w m => by
    rcases List.mem_append.mp (sortU_perm.mem_iff.mp m) with a | a
    · exact .inl a
    · obtain ⟨p, hp, e⟩ := List.mem_map.mp a
      exact .inr ⟨p, hp, e.symm⟩
  refine ⟨by omega, by omega, fun w m => ?_, strict_sort ?_, fun i hi => ?_⟩
  · rcases mem w m with a | ⟨p, hp, e⟩
    · have := hw.uv w a; omega
    · have := h.ok p hp
      subst e
      exact ⟨this.1, by dsimp only; omega, this.2⟩
  · refine List.pairwise_append.mpr ⟨hw.ord.imp fun a => by omega, ?_, ?_⟩
    · refine List.pairwise_map.mpr (h.ord.imp fun a => ?_)
      dsimp only
      omega
    · intro a ma b mb
      obtain ⟨p, hp, e⟩ := List.mem_map.mp mb
      have := hw.uv a ma
      subst e
      dsimp only
      omega
  · have sub : ∀ w, w ∈ ls → w ∈ sortU (ls ++ rowW n r) := fun w m => sortU_perm.mem_iff.mpr (List.mem_append_left _ m)
    by_cases c : i < n
    · exact (hw.whole i c).mono sub
    · have e : i = n := by omega
      subst e
      cases r with
      | nil => exact absurd rfl h.ne
      | cons p r =>
        have ok := h.ok p (List.mem_cons_self ..)
        refine ((hw.whole p.1 ok.1).mono sub).trans (.of (d := p.2) (sortU_perm.mem_iff.mpr (List.mem_append_right _ ?_)))
        exact List.mem_map.mpr ⟨p, List.mem_cons_self .., rfl⟩
/-- what a place more costs -/
noncomputable def gain (k L j : Nat) (n : Nat) (ls : List Wy) (r : Row) : Int := need k L j (days (least (ls ++ rowW n r))) (mx (least (ls ++ rowW n r))) - need k L j (days (least ls)) (mx (least ls))
theorem place_gain_i (hS : Cl S) (d : Nat) {n : Nat} {ls : List Wy} (hw : WebOk n ls) (hn : n < 40) (hl : ls.length + 41 ≤ LIM) {r : Row} (h : RowOk n r) (hr : r.length ≤ 40) {k L j : Nat} (hk : LoansOk k L j) :
    callF T wn (d + 8) "place_gain" [.d (web n ls), .d (loans k L j), .d (rowP r)] S = .ok (.d (.int (gain k L j n ls r))) S := by
  have ec : ∀ d, callF T wn (d + 2) "check_loans_worths" [.d (loans k L j)] S = .ok (.d .none) S := fun d => by
    rw [callF_eq t.check_loans rfl, C.t_check_loans_worths]
    simp only [startL, List.map_cons, List.map_nil, List.length_cons, List.length_nil, List.replicate, List.replicate_succ, List.replicate_zero, List.cons_append, List.nil_append, List.append_nil, Nat.reduceAdd, Nat.reduceSub, Nat.zero_add, ↓evalE_popAt, ↓evalI_range1, ↓evalI_range2, ↓evalE_mul, ↓evalE_mod, ↓evalE_fdiv, ↓evalE_pow, evalSs, evalS, evalE, evalEs, evalT, evalI, evalO, evalC, SRes.seq_next, SRes.seq_ret, SRes.seq_err, SRes.seq_brk, SRes.seq_cnt, SRes.seq_stuck, Res.bind_ok, Res.bind_err, Res.bind_stuck, Res.st_ok, Res.st_err, Res.st_stuck, ofO_some, ofO_none, asP_d, getV_z, getV_s, Option.bind_some, Option.map_some, Option.bind_none, Option.map_none, biP, on1, ints2, unD, mkL_f, mkL_t, plain_d, truthP, List.set_cons_zero, List.set_cons_succ, ofOS, unpackV, setAll, setAllD, bindT, ite_tru, ite_fls, if_true, if_false, reduceIte, Bool.false_eq_true, Bool.not_true, Bool.not_false, retv_ok, are_loans_i t.n hS, next_ok hS]
  have hl3 : (sortU (ls ++ rowW n r)).length < LIM := by rw [sortU_perm.length_eq, List.length_append]; unfold rowW; rw [List.length_map]; omega
  rw [callF_eq t.place_gain rfl, C.t_place_gain]
  simp only [startL, List.map_cons, List.map_nil, List.length_cons, List.length_nil, List.replicate, List.replicate_succ, List.replicate_zero, List.cons_append, List.nil_append, List.append_nil, Nat.reduceAdd, Nat.reduceSub, Nat.zero_add, ↓evalE_popAt, ↓evalI_range1, ↓evalI_range2, ↓evalE_mul, ↓evalE_mod, ↓evalE_fdiv, ↓evalE_pow, evalSs, evalS, evalE, evalEs, evalT, evalI, evalO, evalC, SRes.seq_next, SRes.seq_ret, SRes.seq_err, SRes.seq_brk, SRes.seq_cnt, SRes.seq_stuck, Res.bind_ok, Res.bind_err, Res.bind_stuck, Res.st_ok, Res.st_err, Res.st_stuck, ofO_some, ofO_none, asP_d, getV_z, getV_s, Option.bind_some, Option.map_some, Option.bind_none, Option.map_none, biP, on1, ints2, unD, mkL_f, mkL_t, plain_d, truthP, List.set_cons_zero, List.set_cons_succ, ofOS, unpackV, setAll, setAllD, bindT, ite_tru, ite_fls, if_true, if_false, reduceIte, Bool.false_eq_true, Bool.not_true, Bool.not_false, retv_ok, isi_int, isi_bool, isi_tup, bLen, seqV, seqP_t, seqP_l, lstP, intsV, eq_i, ne_i, le_i, lt_i, gt_i, ge_i, add_i, sub_i, itemsOf, enumOf, Int.cast_ofNat_Int, Int.natCast_one, List.length_map, Int.reduceEq, Int.reduceLT, Int.reduceLE, made_terms_i t.n hS _ hw (by omega) hk, ec, with_place_i t hS _ hw hn (by omega) h hr, needed_i t.n hS _ (webOk_place hw hn h) hl3 hk, needed_i t.n hS _ hw (by omega) hk, retv_ok hS, gain, least_congr (sortU_perm (l := ls ++ rowW n r))]
end EvP
end
section
set_option maxRecDepth 100000
set_option maxHeartbeats 1000000
/-! EvP6: a law's own least tree. -/
namespace EvP
open Ev PySem L2 MW
structure TO (T : String → Option Fn) : Prop where
  joined : T "_law_web_joined" = some C.t__law_web_joined
  least : T "_law_web_least" = some C.t__law_web_least
  longest : T "_law_web_longest" = some C.t__law_web_longest
variable {T : String → Option Fn} {wn : Nat} {S : Sto} (t : TO T)
include t
theorem law_joined_i (hS : Cl S) (d : Nat) {n : Nat} {ls : List Wy} (hb : Below n ls) (hn : n ≤ 1000) (hl : ls.length < LIM) :
    callF T wn (d + 1) "_law_web_joined" [.d (.int n), .d (.list (wys ls))] S = .ok (.d (.list (wys (kr [] ls)))) S := by
  have hr : (n : Int) ≤ (LIM : Int) ∧ -(2 ^ 62) ≤ (n : Int) := by unfold LIM; omega
  have et : take onto (List.range n) ls = kr [] ls := take_kr joins_ontoF Lab.start hb
  rw [callF_eq t.joined rfl, C.t__law_web_joined]
  simp only [startL, List.map_cons, List.map_nil, List.length_cons, List.length_nil, List.replicate, List.replicate_succ, List.replicate_zero, List.cons_append, List.nil_append, List.append_nil, Nat.reduceAdd, Nat.reduceSub, Nat.zero_add, ↓evalE_popAt, ↓evalI_range1, ↓evalI_range2, ↓evalE_mul, ↓evalE_mod, ↓evalE_fdiv, ↓evalE_pow, evalSs, evalS, evalE, evalEs, evalT, evalI, evalO, evalC, SRes.seq_next, SRes.seq_ret, SRes.seq_err, SRes.seq_brk, SRes.seq_cnt, SRes.seq_stuck, Res.bind_ok, Res.bind_err, Res.bind_stuck, Res.st_ok, Res.st_err, Res.st_stuck, ofO_some, ofO_none, asP_d, getV_z, getV_s, Option.bind_some, Option.map_some, Option.bind_none, Option.map_none, biP, on1, ints2, unD, mkL_f, mkL_t, plain_d, truthP, List.set_cons_zero, List.set_cons_succ, ofOS, unpackV, setAll, setAllD, bindT, ite_tru, ite_fls, if_true, if_false, reduceIte, Bool.false_eq_true, Bool.not_true, Bool.not_false, retv_ok, isi_int, isi_bool, isi_tup, bLen, seqV, seqP_t, seqP_l, lstP, intsV, eq_i, ne_i, le_i, lt_i, gt_i, ge_i, add_i, sub_i, itemsOf, enumOf, Int.cast_ofNat_Int, Int.natCast_one, List.length_map, Int.reduceEq, Int.reduceLT, Int.reduceLE, bRange, if_pos hr, rangeP_nat]
  refine for_then (P := fun r => outF false S.length r = _) (fun xs l S1 => ∃ (r k : List Wy) (L : List Nat) (a b c e f g : Option DV), xs = wys r ∧ l = [some (.d (.int n)), some (.d (.list (wys ls))), some (.d (.list (nats L))), some (.ref S.length), a, b, c, e, f, g] ∧ S1 = S ++ [.lst (wys k)] ∧ L.length = n ∧ Below n r ∧ k.length + r.length ≤ ls.length ∧ k ++ take onto L r = kr [] ls)
    ⟨ls, [], List.range n, none, none, none, none, none, none, rfl, rfl, rfl, by simp, hb, by simp, by simpa using et⟩ ?_ ?_
  · rintro x r l S1 ⟨r', k, L, a, b, c, e, f, g, e1, e2, e3, hL, hb', hk, e4⟩
    cases r' with
    | nil => cases e1
    | cons w r' =>
      cases e1
      rw [e2, e3]
      have hw := hb' w (List.mem_cons_self ..)
      have hb2 : Below n r' := fun x m => hb' x (List.mem_cons_of_mem _ m)
      have h1 : w.1 < L.length := by omega
      have h2 : w.2.1 < L.length := by omega
      simp only [List.length_cons] at hk
      simp only [forF, wy, startL, List.map_cons, List.map_nil, List.length_cons, List.length_nil, List.replicate, List.replicate_succ, List.replicate_zero, List.cons_append, List.nil_append, List.append_nil, Nat.reduceAdd, Nat.reduceSub, Nat.zero_add, ↓evalE_popAt, ↓evalI_range1, ↓evalI_range2, ↓evalE_mul, ↓evalE_mod, ↓evalE_fdiv, ↓evalE_pow, evalSs, evalS, evalE, evalEs, evalT, evalI, evalO, evalC, SRes.seq_next, SRes.seq_ret, SRes.seq_err, SRes.seq_brk, SRes.seq_cnt, SRes.seq_stuck, Res.bind_ok, Res.bind_err, Res.bind_stuck, Res.st_ok, Res.st_err, Res.st_stuck, ofO_some, ofO_none, asP_d, getV_z, getV_s, Option.bind_some, Option.map_some, Option.bind_none, Option.map_none, biP, on1, ints2, unD, mkL_f, mkL_t, plain_d, truthP, List.set_cons_zero, List.set_cons_succ, ofOS, unpackV, setAll, setAllD, bindT, ite_tru, ite_fls, if_true, if_false, reduceIte, Bool.false_eq_true, Bool.not_true, Bool.not_false, retv_ok, isi_int, isi_bool, isi_tup, bLen, seqV, seqP_t, seqP_l, lstP, intsV, eq_i, ne_i, le_i, lt_i, gt_i, ge_i, add_i, sub_i, itemsOf, enumOf, Int.cast_ofNat_Int, Int.natCast_one, List.length_map, Int.reduceEq, Int.reduceLT, Int.reduceLE, ix_nats h1, ix_nats h2]
      by_cases q : L.getD w.1 0 = L.getD w.2.1 0
      · rw [take_eq q] at e4
        simp only [q, decide_true, ↓evalE_popAt, ↓evalI_range1, ↓evalI_range2, ↓evalE_mul, ↓evalE_mod, ↓evalE_fdiv, ↓evalE_pow, evalSs, evalS, evalE, evalEs, evalT, evalI, evalO, evalC, SRes.seq_next, SRes.seq_ret, SRes.seq_err, SRes.seq_brk, SRes.seq_cnt, SRes.seq_stuck, Res.bind_ok, Res.bind_err, Res.bind_stuck, Res.st_ok, Res.st_err, Res.st_stuck, ofO_some, ofO_none, asP_d, getV_z, getV_s, Option.bind_some, Option.map_some, Option.bind_none, Option.map_none, biP, on1, ints2, unD, mkL_f, mkL_t, plain_d, truthP, List.set_cons_zero, List.set_cons_succ, ofOS, unpackV, setAll, setAllD, bindT, ite_tru, ite_fls, if_true, if_false, reduceIte, Bool.false_eq_true, Bool.not_true, Bool.not_false, retv_ok]
        exact ⟨_, _, rfl, rfl, r', k, L, _, _, _, _, _, _, rfl, rfl, rfl, hL, hb2, by omega, e4⟩
      · rw [take_ne q] at e4
        have q' : ¬ ((L.getD w.1 0 : Nat) : Int) = (L.getD w.2.1 0 : Nat) := by omega
        have hk2 : (wys k).length < LIM := by rw [wys_len]; omega
        have rc : recv (.ref S.length) (S ++ [.lst (wys k)]) = true := by show (lstAt (S ++ [.lst (wys k)]) S.length).isSome = true; rw [lstAt_own]; rfl
        have hL2 : (nats L).length ≤ LIM := by rw [nats_len]; unfold LIM; omega
        simp only [q', decide_false, ↓evalE_popAt, ↓evalI_range1, ↓evalI_range2, ↓evalE_mul, ↓evalE_mod, ↓evalE_fdiv, ↓evalE_pow, evalSs, evalS, evalE, evalEs, evalT, evalI, evalO, evalC, SRes.seq_next, SRes.seq_ret, SRes.seq_err, SRes.seq_brk, SRes.seq_cnt, SRes.seq_stuck, Res.bind_ok, Res.bind_err, Res.bind_stuck, Res.st_ok, Res.st_err, Res.st_stuck, ofO_some, ofO_none, asP_d, getV_z, getV_s, Option.bind_some, Option.map_some, Option.bind_none, Option.map_none, biP, on1, ints2, unD, mkL_f, mkL_t, plain_d, truthP, List.set_cons_zero, List.set_cons_succ, ofOS, unpackV, setAll, setAllD, bindT, ite_tru, ite_fls, if_true, if_false, reduceIte, Bool.false_eq_true, Bool.not_true, Bool.not_false, retv_ok, isi_int, isi_bool, isi_tup, bLen, seqV, seqP_t, seqP_l, lstP, intsV, eq_i, ne_i, le_i, lt_i, gt_i, ge_i, add_i, sub_i, itemsOf, enumOf, Int.cast_ofNat_Int, Int.natCast_one, List.length_map, Int.reduceEq, Int.reduceLT, Int.reduceLE, methP, lstAt_own, mAppend, if_pos hk2, set_own, rc, ix_nats h1, ix_nats h2, if_pos hL2]
        rw [comp_map (g := fun x => match x with
          | .int i => .int (if i = (L.getD w.1 0 : Nat) then ((L.getD w.2.1 0 : Nat) : Int) else i)
          | y => y) rfl]
        · simp only [noErr_ok, ↓evalE_popAt, ↓evalI_range1, ↓evalI_range2, ↓evalE_mul, ↓evalE_mod, ↓evalE_fdiv, ↓evalE_pow, evalSs, evalS, evalE, evalEs, evalT, evalI, evalO, evalC, SRes.seq_next, SRes.seq_ret, SRes.seq_err, SRes.seq_brk, SRes.seq_cnt, SRes.seq_stuck, Res.bind_ok, Res.bind_err, Res.bind_stuck, Res.st_ok, Res.st_err, Res.st_stuck, ofO_some, ofO_none, asP_d, getV_z, getV_s, Option.bind_some, Option.map_some, Option.bind_none, Option.map_none, biP, on1, ints2, unD, mkL_f, mkL_t, plain_d, truthP, List.set_cons_zero, List.set_cons_succ, ofOS, unpackV, setAll, setAllD, bindT, ite_tru, ite_fls, if_true, if_false, reduceIte, Bool.false_eq_true, Bool.not_true, Bool.not_false, retv_ok]
          have e5 : (nats L).map (fun x => match x with
              | .int i => .int (if i = (L.getD w.1 0 : Nat) then ((L.getD w.2.1 0 : Nat) : Int) else i)
              | y => y) = nats (L.map (onto (L.getD w.1 0) (L.getD w.2.1 0))) := by
            simp only [nats, List.map_map]
            congr 1
            funext x
            simp only [Function.comp, onto]
            congr 1
            split <;> split <;> omega
          rw [List.nil_append, e5]
          refine ⟨_, _, rfl, rfl, r', k ++ [w], L.map (onto (L.getD w.1 0) (L.getD w.2.1 0)), _, _, _, _, _, _, rfl, rfl, ?_, by simpa using hL, hb2, by simp; omega, by simpa using e4⟩
          simp [wys, wy]
        · intro x hx
          obtain ⟨y, _, rfl⟩ := List.mem_map.mp hx
          simp only [compF, wipeL, ↓evalE_popAt, ↓evalI_range1, ↓evalI_range2, ↓evalE_mul, ↓evalE_mod, ↓evalE_fdiv, ↓evalE_pow, evalSs, evalS, evalE, evalEs, evalT, evalI, evalO, evalC, SRes.seq_next, SRes.seq_ret, SRes.seq_err, SRes.seq_brk, SRes.seq_cnt, SRes.seq_stuck, Res.bind_ok, Res.bind_err, Res.bind_stuck, Res.st_ok, Res.st_err, Res.st_stuck, ofO_some, ofO_none, asP_d, getV_z, getV_s, Option.bind_some, Option.map_some, Option.bind_none, Option.map_none, biP, on1, ints2, unD, mkL_f, mkL_t, plain_d, truthP, List.set_cons_zero, List.set_cons_succ, ofOS, unpackV, setAll, setAllD, bindT, ite_tru, ite_fls, if_true, if_false, reduceIte, Bool.false_eq_true, Bool.not_true, Bool.not_false, retv_ok, eq_i]
          by_cases c : (y : Int) = (L.getD w.1 0 : Nat)
          · simp only [c, decide_true, ↓evalE_popAt, ↓evalI_range1, ↓evalI_range2, ↓evalE_mul, ↓evalE_mod, ↓evalE_fdiv, ↓evalE_pow, evalSs, evalS, evalE, evalEs, evalT, evalI, evalO, evalC, SRes.seq_next, SRes.seq_ret, SRes.seq_err, SRes.seq_brk, SRes.seq_cnt, SRes.seq_stuck, Res.bind_ok, Res.bind_err, Res.bind_stuck, Res.st_ok, Res.st_err, Res.st_stuck, ofO_some, ofO_none, asP_d, getV_z, getV_s, Option.bind_some, Option.map_some, Option.bind_none, Option.map_none, biP, on1, ints2, unD, mkL_f, mkL_t, plain_d, truthP, List.set_cons_zero, List.set_cons_succ, ofOS, unpackV, setAll, setAllD, bindT, ite_tru, ite_fls, if_true, if_false, reduceIte, Bool.false_eq_true, Bool.not_true, Bool.not_false, retv_ok]
          · simp only [c, decide_false, ↓evalE_popAt, ↓evalI_range1, ↓evalI_range2, ↓evalE_mul, ↓evalE_mod, ↓evalE_fdiv, ↓evalE_pow, evalSs, evalS, evalE, evalEs, evalT, evalI, evalO, evalC, SRes.seq_next, SRes.seq_ret, SRes.seq_err, SRes.seq_brk, SRes.seq_cnt, SRes.seq_stuck, Res.bind_ok, Res.bind_err, Res.bind_stuck, Res.st_ok, Res.st_err, Res.st_stuck, ofO_some, ofO_none, asP_d, getV_z, getV_s, Option.bind_some, Option.map_some, Option.bind_none, Option.map_none, biP, on1, ints2, unD, mkL_f, mkL_t, plain_d, truthP, List.set_cons_zero, List.set_cons_succ, ofOS, unpackV, setAll, setAllD, bindT, ite_tru, ite_fls, if_true, if_false, reduceIte, Bool.false_eq_true, Bool.not_true, Bool.not_false, retv_ok]
  · rintro l S1 ⟨r', k, L, a, b, c, e, f, g, e1, e2, e3, hL, hb', hk, e4⟩
    cases r' with
    | cons w r' => cases e1
    | nil =>
      rw [e2, e3]
      have e5 : k = kr [] ls := by simpa [take] using e4
      rw [e5]
      simp only [↓evalE_popAt, ↓evalI_range1, ↓evalI_range2, ↓evalE_mul, ↓evalE_mod, ↓evalE_fdiv, ↓evalE_pow, evalSs, evalS, evalE, evalEs, evalT, evalI, evalO, evalC, SRes.seq_next, SRes.seq_ret, SRes.seq_err, SRes.seq_brk, SRes.seq_cnt, SRes.seq_stuck, Res.bind_ok, Res.bind_err, Res.bind_stuck, Res.st_ok, Res.st_err, Res.st_stuck, ofO_some, ofO_none, asP_d, getV_z, getV_s, Option.bind_some, Option.map_some, Option.bind_none, Option.map_none, biP, on1, ints2, unD, mkL_f, mkL_t, plain_d, truthP, List.set_cons_zero, List.set_cons_succ, ofOS, unpackV, setAll, setAllD, bindT, ite_tru, ite_fls, if_true, if_false, reduceIte, Bool.false_eq_true, Bool.not_true, Bool.not_false, retv_ok]
      exact retl_own (i := 0) hS rfl
theorem law_least_i (hS : Cl S) (d : Nat) {n : Nat} {ls : List Wy} (hb : Below n ls) (hn : n ≤ 1000) (hl : ls.length < LIM) :
    callF T wn (d + 2) "_law_web_least" [.d (web n ls)] S = .ok (.d (.tuple (wys (sortU (least ls))))) S := by
  have i0 : ixP (.tuple [.int n, .tuple (wys ls)]) (.int 0) = some (.int n) := rfl
  have i1 : ixP (.tuple [.int n, .tuple (wys ls)]) (.int 1) = some (.tuple (wys ls)) := rfl
  have hl2 : ls.length ≤ LIM := Nat.le_of_lt hl
  have hs : (sortD ls).length = ls.length := sortD_perm.length_eq
  have hs2 : (sortD ls).length ≤ LIM := by omega
  have h2 : (least ls).length ≤ LIM := Nat.le_trans (Nat.le_trans kr_sub.length_le (Nat.le_of_eq sortD_perm.length_eq)) (Nat.le_of_lt hl)
  rw [callF_eq t.least rfl, C.t__law_web_least]
  simp only [web, startL, List.map_cons, List.map_nil, List.length_cons, List.length_nil, List.replicate, List.replicate_succ, List.replicate_zero, List.cons_append, List.nil_append, List.append_nil, Nat.reduceAdd, Nat.reduceSub, Nat.zero_add, ↓evalE_popAt, ↓evalI_range1, ↓evalI_range2, ↓evalE_mul, ↓evalE_mod, ↓evalE_fdiv, ↓evalE_pow, evalSs, evalS, evalE, evalEs, evalT, evalI, evalO, evalC, SRes.seq_next, SRes.seq_ret, SRes.seq_err, SRes.seq_brk, SRes.seq_cnt, SRes.seq_stuck, Res.bind_ok, Res.bind_err, Res.bind_stuck, Res.st_ok, Res.st_err, Res.st_stuck, ofO_some, ofO_none, asP_d, getV_z, getV_s, Option.bind_some, Option.map_some, Option.bind_none, Option.map_none, biP, on1, ints2, unD, mkL_f, mkL_t, plain_d, truthP, List.set_cons_zero, List.set_cons_succ, ofOS, unpackV, setAll, setAllD, bindT, ite_tru, ite_fls, if_true, if_false, reduceIte, Bool.false_eq_true, Bool.not_true, Bool.not_false, retv_ok, isi_int, isi_bool, isi_tup, bLen, seqV, seqP_t, seqP_l, lstP, intsV, eq_i, ne_i, le_i, lt_i, gt_i, ge_i, add_i, sub_i, itemsOf, enumOf, Int.cast_ofNat_Int, Int.natCast_one, List.length_map, Int.reduceEq, Int.reduceLT, Int.reduceLE, i0, i1, wys_len, if_pos hl2]
  rw [comp_map (g := fun x => match x with
    | .tuple [a, b, c] => .tuple [c, a, b]
    | y => y) rfl]
  · have e : (wys ls).map (fun x => match x with
      | .tuple [a, b, c] => .tuple [c, a, b]
      | y => y) = ls.map kd := by unfold wys; rw [List.map_map]; rfl
    simp only [noErr_ok, ↓evalE_popAt, ↓evalI_range1, ↓evalI_range2, ↓evalE_mul, ↓evalE_mod, ↓evalE_fdiv, ↓evalE_pow, evalSs, evalS, evalE, evalEs, evalT, evalI, evalO, evalC, SRes.seq_next, SRes.seq_ret, SRes.seq_err, SRes.seq_brk, SRes.seq_cnt, SRes.seq_stuck, Res.bind_ok, Res.bind_err, Res.bind_stuck, Res.st_ok, Res.st_err, Res.st_stuck, ofO_some, ofO_none, asP_d, getV_z, getV_s, Option.bind_some, Option.map_some, Option.bind_none, Option.map_none, biP, on1, ints2, unD, mkL_f, mkL_t, plain_d, truthP, List.set_cons_zero, List.set_cons_succ, ofOS, unpackV, setAll, setAllD, bindT, ite_tru, ite_fls, if_true, if_false, reduceIte, Bool.false_eq_true, Bool.not_true, Bool.not_false, retv_ok, isi_int, isi_bool, isi_tup, bLen, seqV, seqP_t, seqP_l, lstP, intsV, eq_i, ne_i, le_i, lt_i, gt_i, ge_i, add_i, sub_i, itemsOf, enumOf, Int.cast_ofNat_Int, Int.natCast_one, List.length_map, Int.reduceEq, Int.reduceLT, Int.reduceLE, e, List.nil_append, bNew, sortedP_kd hl2, i0, if_pos hs2]
    rw [comp_map (g := fun x => match x with
      | .tuple [c, a, b] => .tuple [a, b, c]
      | y => y) rfl]
    · have e : ((sortD ls).map kd).map (fun x => match x with
        | .tuple [c, a, b] => .tuple [a, b, c]
        | y => y) = wys (sortD ls) := by unfold wys; rw [List.map_map]; rfl
      have e3 : kr [] (sortD ls) = least ls := rfl
      simp only [noErr_ok, ↓evalE_popAt, ↓evalI_range1, ↓evalI_range2, ↓evalE_mul, ↓evalE_mod, ↓evalE_fdiv, ↓evalE_pow, evalSs, evalS, evalE, evalEs, evalT, evalI, evalO, evalC, SRes.seq_next, SRes.seq_ret, SRes.seq_err, SRes.seq_brk, SRes.seq_cnt, SRes.seq_stuck, Res.bind_ok, Res.bind_err, Res.bind_stuck, Res.st_ok, Res.st_err, Res.st_stuck, ofO_some, ofO_none, asP_d, getV_z, getV_s, Option.bind_some, Option.map_some, Option.bind_none, Option.map_none, biP, on1, ints2, unD, mkL_f, mkL_t, plain_d, truthP, List.set_cons_zero, List.set_cons_succ, ofOS, unpackV, setAll, setAllD, bindT, ite_tru, ite_fls, if_true, if_false, reduceIte, Bool.false_eq_true, Bool.not_true, Bool.not_false, retv_ok, isi_int, isi_bool, isi_tup, bLen, seqV, seqP_t, seqP_l, lstP, intsV, eq_i, ne_i, le_i, lt_i, gt_i, ge_i, add_i, sub_i, itemsOf, enumOf, Int.cast_ofNat_Int, Int.natCast_one, List.length_map, Int.reduceEq, Int.reduceLT, Int.reduceLE, e, List.nil_append, bNew, law_joined_i t hS _ (hb.perm sortD_perm) hn (by omega), e3, sortedP_wys h2, retv_ok hS]
    · intro x hx
      obtain ⟨w, _, rfl⟩ := List.mem_map.mp hx
      simp only [compF, wipeL, kd, ↓evalE_popAt, ↓evalI_range1, ↓evalI_range2, ↓evalE_mul, ↓evalE_mod, ↓evalE_fdiv, ↓evalE_pow, evalSs, evalS, evalE, evalEs, evalT, evalI, evalO, evalC, SRes.seq_next, SRes.seq_ret, SRes.seq_err, SRes.seq_brk, SRes.seq_cnt, SRes.seq_stuck, Res.bind_ok, Res.bind_err, Res.bind_stuck, Res.st_ok, Res.st_err, Res.st_stuck, ofO_some, ofO_none, asP_d, getV_z, getV_s, Option.bind_some, Option.map_some, Option.bind_none, Option.map_none, biP, on1, ints2, unD, mkL_f, mkL_t, plain_d, truthP, List.set_cons_zero, List.set_cons_succ, ofOS, unpackV, setAll, setAllD, bindT, ite_tru, ite_fls, if_true, if_false, reduceIte, Bool.false_eq_true, Bool.not_true, Bool.not_false, retv_ok]
  · intro x hx
    obtain ⟨w, _, rfl⟩ := List.mem_map.mp hx
    simp only [compF, wipeL, wy, ↓evalE_popAt, ↓evalI_range1, ↓evalI_range2, ↓evalE_mul, ↓evalE_mod, ↓evalE_fdiv, ↓evalE_pow, evalSs, evalS, evalE, evalEs, evalT, evalI, evalO, evalC, SRes.seq_next, SRes.seq_ret, SRes.seq_err, SRes.seq_brk, SRes.seq_cnt, SRes.seq_stuck, Res.bind_ok, Res.bind_err, Res.bind_stuck, Res.st_ok, Res.st_err, Res.st_stuck, ofO_some, ofO_none, asP_d, getV_z, getV_s, Option.bind_some, Option.map_some, Option.bind_none, Option.map_none, biP, on1, ints2, unD, mkL_f, mkL_t, plain_d, truthP, List.set_cons_zero, List.set_cons_succ, ofOS, unpackV, setAll, setAllD, bindT, ite_tru, ite_fls, if_true, if_false, reduceIte, Bool.false_eq_true, Bool.not_true, Bool.not_false, retv_ok]
theorem law_longest_i (hS : Cl S) (d : Nat) {l : List Wy} (hl : l.length < LIM) : callF T wn (d + 1) "_law_web_longest" [.d (.tuple (wys l))] S = .ok (.d (.int (mx l : Nat))) S := by
  have hl2 : l.length ≤ LIM := Nat.le_of_lt hl
  rw [callF_eq t.longest rfl, C.t__law_web_longest]
  simp only [startL, List.map_cons, List.map_nil, List.length_cons, List.length_nil, List.replicate, List.replicate_succ, List.replicate_zero, List.cons_append, List.nil_append, List.append_nil, Nat.reduceAdd, Nat.reduceSub, Nat.zero_add, ↓evalE_popAt, ↓evalI_range1, ↓evalI_range2, ↓evalE_mul, ↓evalE_mod, ↓evalE_fdiv, ↓evalE_pow, evalSs, evalS, evalE, evalEs, evalT, evalI, evalO, evalC, SRes.seq_next, SRes.seq_ret, SRes.seq_err, SRes.seq_brk, SRes.seq_cnt, SRes.seq_stuck, Res.bind_ok, Res.bind_err, Res.bind_stuck, Res.st_ok, Res.st_err, Res.st_stuck, ofO_some, ofO_none, asP_d, getV_z, getV_s, Option.bind_some, Option.map_some, Option.bind_none, Option.map_none, biP, on1, ints2, unD, mkL_f, mkL_t, plain_d, truthP, List.set_cons_zero, List.set_cons_succ, ofOS, unpackV, setAll, setAllD, bindT, ite_tru, ite_fls, if_true, if_false, reduceIte, Bool.false_eq_true, Bool.not_true, Bool.not_false, retv_ok, isi_int, isi_bool, isi_tup, bLen, seqV, seqP_t, seqP_l, lstP, intsV, eq_i, ne_i, le_i, lt_i, gt_i, ge_i, add_i, sub_i, itemsOf, enumOf, Int.cast_ofNat_Int, Int.natCast_one, List.length_map, Int.reduceEq, Int.reduceLT, Int.reduceLE, wys_len, if_pos hl2]
  rw [comp_map (g := fun x => match x with
    | .tuple [_, _, c] => c
    | y => y) rfl]
  · have e : (wys l).map (fun x => match x with
      | .tuple [_, _, c] => c
      | y => y) = l.map fun w => .int (w.2.2 : Nat) := by unfold wys; rw [List.map_map]; rfl
    have ha : binP .add (.list [.int 0]) (.list (l.map fun w => .int (w.2.2 : Nat))) = some (.list (.int 0 :: l.map fun w => .int (w.2.2 : Nat))) := by
      show (if [PyData.int 0].length + (l.map fun w => PyData.int (w.2.2 : Nat)).length ≤ LIM then some (PyData.list ([PyData.int 0] ++ l.map fun w => PyData.int (w.2.2 : Nat))) else none) = _
      rw [if_pos (by rw [List.length_map]; simp; omega)]
      rfl
    have hi : intsOf (.int 0 :: l.map fun w => .int (w.2.2 : Nat)) = some (0 :: l.map fun w => (w.2.2 : Int)) := by
      show (intsOf _).map _ = _
      rw [intsOf_days]; rfl
    have hm : maxI (0 :: l.map fun w => (w.2.2 : Int)) = some (mx l : Int) := by
      show some _ = _
      have := fold_mx l 0
      rw [show ((0 : Nat) : Int) = 0 from rfl] at this
      rw [this]
      simp
    simp only [noErr_ok, ↓evalE_popAt, ↓evalI_range1, ↓evalI_range2, ↓evalE_mul, ↓evalE_mod, ↓evalE_fdiv, ↓evalE_pow, evalSs, evalS, evalE, evalEs, evalT, evalI, evalO, evalC, SRes.seq_next, SRes.seq_ret, SRes.seq_err, SRes.seq_brk, SRes.seq_cnt, SRes.seq_stuck, Res.bind_ok, Res.bind_err, Res.bind_stuck, Res.st_ok, Res.st_err, Res.st_stuck, ofO_some, ofO_none, asP_d, getV_z, getV_s, Option.bind_some, Option.map_some, Option.bind_none, Option.map_none, biP, on1, ints2, unD, mkL_f, mkL_t, plain_d, truthP, List.set_cons_zero, List.set_cons_succ, ofOS, unpackV, setAll, setAllD, bindT, ite_tru, ite_fls, if_true, if_false, reduceIte, Bool.false_eq_true, Bool.not_true, Bool.not_false, retv_ok, isi_int, isi_bool, isi_tup, bLen, seqV, seqP_t, seqP_l, lstP, intsV, eq_i, ne_i, le_i, lt_i, gt_i, ge_i, add_i, sub_i, itemsOf, enumOf, Int.cast_ofNat_Int, Int.natCast_one, List.length_map, Int.reduceEq, Int.reduceLT, Int.reduceLE, e, List.nil_append, ha, hi, hm, retv_ok hS]
  · intro x hx
    obtain ⟨w, _, rfl⟩ := List.mem_map.mp hx
    simp only [compF, wipeL, wy, ↓evalE_popAt, ↓evalI_range1, ↓evalI_range2, ↓evalE_mul, ↓evalE_mod, ↓evalE_fdiv, ↓evalE_pow, evalSs, evalS, evalE, evalEs, evalT, evalI, evalO, evalC, SRes.seq_next, SRes.seq_ret, SRes.seq_err, SRes.seq_brk, SRes.seq_cnt, SRes.seq_stuck, Res.bind_ok, Res.bind_err, Res.bind_stuck, Res.st_ok, Res.st_err, Res.st_stuck, ofO_some, ofO_none, asP_d, getV_z, getV_s, Option.bind_some, Option.map_some, Option.bind_none, Option.map_none, biP, on1, ints2, unD, mkL_f, mkL_t, plain_d, truthP, List.set_cons_zero, List.set_cons_succ, ofOS, unpackV, setAll, setAllD, bindT, ite_tru, ite_fls, if_true, if_false, reduceIte, Bool.false_eq_true, Bool.not_true, Bool.not_false, retv_ok]
theorem law_length_i (hT : T "_law_web_length" = some C.t__law_web_length) (hS : Cl S) (d : Nat) {l : List Wy} (hl : l.length < LIM) : callF T wn (d + 1) "_law_web_length" [.d (.tuple (wys l))] S = .ok (.d (.int (days l : Nat))) S := by
  have hl2 : l.length ≤ LIM := Nat.le_of_lt hl
  rw [callF_eq hT rfl, C.t__law_web_length]
  simp only [startL, List.map_cons, List.map_nil, List.length_cons, List.length_nil, List.replicate, List.replicate_succ, List.replicate_zero, List.cons_append, List.nil_append, List.append_nil, Nat.reduceAdd, Nat.reduceSub, Nat.zero_add, ↓evalE_popAt, ↓evalI_range1, ↓evalI_range2, ↓evalE_mul, ↓evalE_mod, ↓evalE_fdiv, ↓evalE_pow, evalSs, evalS, evalE, evalEs, evalT, evalI, evalO, evalC, SRes.seq_next, SRes.seq_ret, SRes.seq_err, SRes.seq_brk, SRes.seq_cnt, SRes.seq_stuck, Res.bind_ok, Res.bind_err, Res.bind_stuck, Res.st_ok, Res.st_err, Res.st_stuck, ofO_some, ofO_none, asP_d, getV_z, getV_s, Option.bind_some, Option.map_some, Option.bind_none, Option.map_none, biP, on1, ints2, unD, mkL_f, mkL_t, plain_d, truthP, List.set_cons_zero, List.set_cons_succ, ofOS, unpackV, setAll, setAllD, bindT, ite_tru, ite_fls, if_true, if_false, reduceIte, Bool.false_eq_true, Bool.not_true, Bool.not_false, retv_ok, isi_int, isi_bool, isi_tup, bLen, seqV, seqP_t, seqP_l, lstP, intsV, eq_i, ne_i, le_i, lt_i, gt_i, ge_i, add_i, sub_i, itemsOf, enumOf, Int.cast_ofNat_Int, Int.natCast_one, List.length_map, Int.reduceEq, Int.reduceLT, Int.reduceLE, wys_len, if_pos hl2]
  rw [comp_map (g := fun x => match x with
    | .tuple [_, _, c] => c
    | y => y) rfl]
  · have e : (wys l).map (fun x => match x with
      | .tuple [_, _, c] => c
      | y => y) = l.map fun w => .int (w.2.2 : Nat) := by unfold wys; rw [List.map_map]; rfl
    simp only [noErr_ok, ↓evalE_popAt, ↓evalI_range1, ↓evalI_range2, ↓evalE_mul, ↓evalE_mod, ↓evalE_fdiv, ↓evalE_pow, evalSs, evalS, evalE, evalEs, evalT, evalI, evalO, evalC, SRes.seq_next, SRes.seq_ret, SRes.seq_err, SRes.seq_brk, SRes.seq_cnt, SRes.seq_stuck, Res.bind_ok, Res.bind_err, Res.bind_stuck, Res.st_ok, Res.st_err, Res.st_stuck, ofO_some, ofO_none, asP_d, getV_z, getV_s, Option.bind_some, Option.map_some, Option.bind_none, Option.map_none, biP, on1, ints2, unD, mkL_f, mkL_t, plain_d, truthP, List.set_cons_zero, List.set_cons_succ, ofOS, unpackV, setAll, setAllD, bindT, ite_tru, ite_fls, if_true, if_false, reduceIte, Bool.false_eq_true, Bool.not_true, Bool.not_false, retv_ok, isi_int, isi_bool, isi_tup, bLen, seqV, seqP_t, seqP_l, lstP, intsV, eq_i, ne_i, le_i, lt_i, gt_i, ge_i, add_i, sub_i, itemsOf, enumOf, Int.cast_ofNat_Int, Int.natCast_one, List.length_map, Int.reduceEq, Int.reduceLT, Int.reduceLE, e, List.nil_append, sumI_days, retv_ok hS]
  · intro x hx
    obtain ⟨w, _, rfl⟩ := List.mem_map.mp hx
    simp only [compF, wipeL, wy, ↓evalE_popAt, ↓evalI_range1, ↓evalI_range2, ↓evalE_mul, ↓evalE_mod, ↓evalE_fdiv, ↓evalE_pow, evalSs, evalS, evalE, evalEs, evalT, evalI, evalO, evalC, SRes.seq_next, SRes.seq_ret, SRes.seq_err, SRes.seq_brk, SRes.seq_cnt, SRes.seq_stuck, Res.bind_ok, Res.bind_err, Res.bind_stuck, Res.st_ok, Res.st_err, Res.st_stuck, ofO_some, ofO_none, asP_d, getV_z, getV_s, Option.bind_some, Option.map_some, Option.bind_none, Option.map_none, biP, on1, ints2, unD, mkL_f, mkL_t, plain_d, truthP, List.set_cons_zero, List.set_cons_succ, ofOS, unpackV, setAll, setAllD, bindT, ite_tru, ite_fls, if_true, if_false, reduceIte, Bool.false_eq_true, Bool.not_true, Bool.not_false, retv_ok]
end EvP
end
section
set_option maxRecDepth 100000
set_option maxHeartbeats 1000000
/-! EvP7: how a law draws. -/
namespace EvP
open Ev PySem L2 MW
structure Pool where
  a : Int
  b : Int
  cs : List Int
/-- the pool, as it stands in the store: always the first two things -/
def pst (p : Pool) : Sto := [.lst (p.cs.map .int), .box [.d (.int p.a), .d (.int p.b), .ref 0]]
/-- no list in it names a thing -/
def NB (R : Sto) : Prop := ∀ o, o ∈ R → ∀ vs, o ≠ .box vs
theorem NB.nil : NB [] := fun o h => by simp at h
theorem NB.add {R : Sto} (h : NB R) {o : OB} (ho : ∀ vs, o ≠ .box vs) : NB (R ++ [o]) := fun x m => by
  rcases List.mem_append.mp m with e | e
  · exact h x e
  · rw [List.mem_singleton.mp e]; exact ho
theorem cl_pst {R : Sto} (h : NB R) (p : Pool) : Cl (pst p ++ R) := by
  unfold Cl closedB
  rw [List.all_eq_true]
  intro o m
  rcases List.mem_append.mp m with e | e
  · simp only [pst, List.mem_cons, List.not_mem_nil, or_false] at e
    rcases e with e | e
    · rw [e]
    · rw [e]; simp [pst]
  · cases o with
    | box vs => exact absurd rfl (h _ e vs)
    | _ => rfl
theorem ret_p {S1 : Sto} {n : Nat} (h : Cl S1) (hn : n = S1.length) (x : PyData) : outF false n (.ret (.d x) S1) = .ok (.d x) S1 := by
  subst hn; exact retv_ok h x
theorem lay_ints : ∀ xs : List Int, PyData.canLayAll0 (xs.map .int) = true
  | [] => rfl
  | x :: xs => by rw [List.map_cons, PyData.canLayAll0, lay_ints xs]; rfl
theorem ne_nil (cs : List Int) : cmpP .ne (.list (cs.map .int)) (.list []) = some (!cs.isEmpty) := by
  show (if SeqAt.shaped (.list (cs.map .int)) = true ∧ SeqAt.shaped (.list []) = true then some (!PyData.eqv (.list (cs.map .int)) (.list [])) else none) = _
  have s1 : SeqAt.shaped (.list (cs.map .int)) = true := by
    unfold SeqAt.shaped
    rw [Bool.and_eq_true, PyData.canLay0, PyData.depth, PySem.W.depth_ints]
    exact ⟨lay_ints cs, by decide⟩
  rw [if_pos ⟨s1, by decide +kernel⟩]
  cases cs with
  | nil => rw [List.map_nil, PyData.eqv, PyData.eqvAll]; rfl
  | cons c cs => rw [List.map_cons, PyData.eqv, PyData.eqvAll]; rfl
theorem pow_18 (S : Sto) : binD .pow (.d (.int 10)) (.d (.int 18)) S = .ok (.d (.int (10 ^ 18))) S := by
  have e : binP .pow (.int 10) (.int 18) = some (.int (10 ^ 18)) := by
    show (if (0 : Int) ≤ 18 ∧ (18 : Int) ≤ 1000000 ∧ (10 : Int).natAbs < 2 ^ 64 then some (PyData.int (10 ^ (18 : Int).toNat)) else none) = _
    rw [if_pos (by decide +kernel)]
    rfl
  rw [binD_eq]; unfold binD0
  rw [asP_d, asP_d, Option.bind_some, Option.bind_some, e]; rfl
theorem fmod_nat (a : Int) {n : Nat} (h : 0 < n) : ∃ v : Nat, v < n ∧ a.fmod (n : Int) = (v : Int) := by
  have h1 : 0 ≤ a.fmod (n : Int) := Int.fmod_nonneg_of_pos a (by omega)
  have h2 : a.fmod (n : Int) < n := Int.fmod_lt_of_pos a (by omega)
  exact ⟨(a.fmod n).toNat, by omega, by omega⟩
structure TP (T : String → Option Fn) : Prop where
  draw : T "_law_draw" = some C.t__law_draw
  pick : T "_law_pick" = some C.t__law_pick
  turned : T "_law_turned" = some C.t__law_turned
  way : T "_law_web_way" = some C.t__law_web_way
  days : T "_law_web_days" = some C.t__law_web_days
  drawn : T "_law_web_drawn" = some C.t__law_web_drawn
variable {T : String → Option Fn} {wn : Nat} (t : TP T)
include t
/-- the second half of a draw -/
theorem draw_i (d : Nat) {R : Sto} (hR : NB R) (p : Pool) {n : Nat} (h0 : 0 < n) (h1 : n < 1000000) :
    ∃ v p', v < n ∧ callF T wn (d + 1) "_law_draw" [.ref 1, .d (.int n)] (pst p ++ R) = .ok (.d (.int (v : Nat))) (pst p' ++ R) := by
  have hn : (n : Int) ≠ 0 := by omega
  have hn2 : (n : Int).natAbs < 1073741824 := by omega
  have md := mod_i hn
  have fd := fdiv_i hn hn2
  have f32 := fdiv_i (b := 32) (by decide) (by decide)
  have m1 := mod_i (b := 2147483629) (by decide)
  have m2 := mod_i (b := 2147483647) (by decide)
  have k2 := mul_l (a := 2) (Sm.of (by decide) (by decide))
  have k3 := mul_r (b := 69621) (Sm.of (by decide) (by decide))
  have k4 := mul_r (b := 48271) (Sm.of (by decide) (by decide))
  have g0 : ∀ x y : DV, atI [x, y, DV.ref 0] 0 = some x := fun _ _ => rfl
  have g1 : ∀ x y : DV, atI [x, y, DV.ref 0] 1 = some y := fun _ _ => rfl
  have g2 : ∀ x y : DV, atI [x, y, DV.ref 0] 2 = some (.ref 0) := fun _ _ => rfl
  have s0 : ∀ (X : OB) (x y v : DV) (R : Sto), putIx (X :: .box [x, y, .ref 0] :: R) (.ref 1) (.d (.int 0)) v = some (X :: .box [v, y, .ref 0] :: R) := fun _ _ _ _ _ => rfl
  have s1 : ∀ (X : OB) (x y v : DV) (R : Sto), putIx (X :: .box [x, y, .ref 0] :: R) (.ref 1) (.d (.int 1)) v = some (X :: .box [x, v, .ref 0] :: R) := fun _ _ _ _ _ => rfl
  -- what follows the first statement
  have tail : ∀ (p : Pool) (a2 a3 a4 : Option DV), ∃ v p', v < n ∧ outF false (R.length + 2) (evalSs (callF T wn d) wn (C.t__law_draw.body.drop 1) [some (.ref 1), some (.d (.int n)), a2, a3, a4] (.lst (p.cs.map .int) :: .box [.d (.int p.a), .d (.int p.b), .ref 0] :: R)) = .ok (.d (.int (v : Nat))) (pst p' ++ R) := by
    intro p a2 a3 a4
    simp only [C.t__law_draw, List.drop_succ_cons, List.drop_zero]
    by_cases c : 0 < p.a
    · obtain ⟨v, hv, e⟩ := fmod_nat p.a h0
      refine ⟨v, ⟨p.a.fdiv n, p.b, p.cs⟩, hv, ?_⟩
      simp only [startL, List.map_cons, List.map_nil, List.length_cons, List.length_nil, List.replicate, List.replicate_succ, List.replicate_zero, List.cons_append, List.nil_append, List.append_nil, Nat.reduceAdd, Nat.reduceSub, Nat.zero_add, ↓evalE_popAt, ↓evalI_range1, ↓evalI_range2, ↓evalE_mul, ↓evalE_mod, ↓evalE_fdiv, ↓evalE_pow, evalSs, evalS, evalE, evalEs, evalT, evalI, evalO, evalC, SRes.seq_next, SRes.seq_ret, SRes.seq_err, SRes.seq_brk, SRes.seq_cnt, SRes.seq_stuck, Res.bind_ok, Res.bind_err, Res.bind_stuck, Res.st_ok, Res.st_err, Res.st_stuck, ofO_some, ofO_none, asP_d, getV_z, getV_s, Option.bind_some, Option.map_some, Option.bind_none, Option.map_none, biP, on1, ints2, unD, mkL_f, mkL_t, plain_d, truthP, List.set_cons_zero, List.set_cons_succ, ofOS, unpackV, setAll, setAllD, bindT, ite_tru, ite_fls, if_true, if_false, reduceIte, Bool.false_eq_true, Bool.not_true, Bool.not_false, retv_ok, isi_int, isi_bool, isi_tup, bLen, seqV, seqP_t, seqP_l, lstP, intsV, eq_i, ne_i, le_i, lt_i, gt_i, ge_i, add_i, sub_i, itemsOf, enumOf, Int.cast_ofNat_Int, Int.natCast_one, List.length_map, Int.reduceEq, Int.reduceLT, Int.reduceLE, List.getElem?_cons_succ, List.getElem?_cons_zero, g0, c, decide_true, bInt, md, fd, s0, e]
      exact ret_p (cl_pst hR ⟨p.a.fdiv n, p.b, p.cs⟩) (by simp [pst]) _
    · simp only [startL, List.map_cons, List.map_nil, List.length_cons, List.length_nil, List.replicate, List.replicate_succ, List.replicate_zero, List.cons_append, List.nil_append, List.append_nil, Nat.reduceAdd, Nat.reduceSub, Nat.zero_add, ↓evalE_popAt, ↓evalI_range1, ↓evalI_range2, ↓evalE_mul, ↓evalE_mod, ↓evalE_fdiv, ↓evalE_pow, evalSs, evalS, evalE, evalEs, evalT, evalI, evalO, evalC, SRes.seq_next, SRes.seq_ret, SRes.seq_err, SRes.seq_brk, SRes.seq_cnt, SRes.seq_stuck, Res.bind_ok, Res.bind_err, Res.bind_stuck, Res.st_ok, Res.st_err, Res.st_stuck, ofO_some, ofO_none, asP_d, getV_z, getV_s, Option.bind_some, Option.map_some, Option.bind_none, Option.map_none, biP, on1, ints2, unD, mkL_f, mkL_t, plain_d, truthP, List.set_cons_zero, List.set_cons_succ, ofOS, unpackV, setAll, setAllD, bindT, ite_tru, ite_fls, if_true, if_false, reduceIte, Bool.false_eq_true, Bool.not_true, Bool.not_false, retv_ok, isi_int, isi_bool, isi_tup, bLen, seqV, seqP_t, seqP_l, lstP, intsV, eq_i, ne_i, le_i, lt_i, gt_i, ge_i, add_i, sub_i, itemsOf, enumOf, Int.cast_ofNat_Int, Int.natCast_one, List.length_map, Int.reduceEq, Int.reduceLT, Int.reduceLE, List.getElem?_cons_succ, List.getElem?_cons_zero, g0, g1, c, decide_false, bInt, k4, m2, s1]
      have hb := fmod_nat (p.b * 48271 + 11) (n := 2147483647) (by decide)
      obtain ⟨b', hb', e'⟩ := hb
      rw [show ((2147483647 : Nat) : Int) = 2147483647 from rfl] at e'
      have k5 := mul_l (a := (b' : Int)) (Sm.of (by omega) (by omega))
      obtain ⟨v, hv, e⟩ := fmod_nat ((((b' : Int) * b').fmod 2147483629).fdiv 32) h0
      refine ⟨v, ⟨p.a, b', p.cs⟩, hv, ?_⟩
      simp only [e', ↓evalE_popAt, ↓evalI_range1, ↓evalI_range2, ↓evalE_mul, ↓evalE_mod, ↓evalE_fdiv, ↓evalE_pow, evalSs, evalS, evalE, evalEs, evalT, evalI, evalO, evalC, SRes.seq_next, SRes.seq_ret, SRes.seq_err, SRes.seq_brk, SRes.seq_cnt, SRes.seq_stuck, Res.bind_ok, Res.bind_err, Res.bind_stuck, Res.st_ok, Res.st_err, Res.st_stuck, ofO_some, ofO_none, asP_d, getV_z, getV_s, Option.bind_some, Option.map_some, Option.bind_none, Option.map_none, biP, on1, ints2, unD, mkL_f, mkL_t, plain_d, truthP, List.set_cons_zero, List.set_cons_succ, ofOS, unpackV, setAll, setAllD, bindT, ite_tru, ite_fls, if_true, if_false, reduceIte, Bool.false_eq_true, Bool.not_true, Bool.not_false, retv_ok, k5, m1, f32, md, e]
      exact ret_p (cl_pst hR ⟨p.a, b', p.cs⟩) (by simp [pst]) _
  have split : C.t__law_draw.body = C.t__law_draw.body.take 1 ++ C.t__law_draw.body.drop 1 := (List.take_append_drop 1 _).symm
  have S0 : pst p ++ R = .lst (p.cs.map .int) :: .box [.d (.int p.a), .d (.int p.b), .ref 0] :: R := rfl
  have L0 : (pst p ++ R).length = R.length + 2 := by simp [pst]
  rw [callF_eq t.draw rfl, L0, S0]
  have ev : ∀ l S, evalSs (callF T wn d) wn C.t__law_draw.body l S = (evalS (callF T wn d) wn (C.t__law_draw.body.headD .pass) l S).seq fun l1 S1 => evalSs (callF T wn d) wn (C.t__law_draw.body.drop 1) l1 S1 := fun l S => by
    show evalSs _ _ (_ :: _) _ _ = _
    rw [evalSs]; rfl
  rw [ev]
  simp only [startL, C.t__law_draw, List.headD_cons]
  show ∃ v p', v < n ∧ outF false (R.length + 2) ((evalS _ _ _ _ _).seq fun l1 S1 => evalSs (callF T wn d) wn (C.t__law_draw.body.drop 1) l1 S1) = _
  by_cases c0 : p.a = 0
  · cases hc : p.cs with
    | nil =>
      have := tail p none none none
      rw [hc] at this
      simp only [List.map_nil] at this
      have nn := ne_nil []
      simp only [List.map_nil] at nn
      simp only [startL, List.map_cons, List.map_nil, List.length_cons, List.length_nil, List.replicate, List.replicate_succ, List.replicate_zero, List.cons_append, List.nil_append, List.append_nil, Nat.reduceAdd, Nat.reduceSub, Nat.zero_add, ↓evalE_popAt, ↓evalI_range1, ↓evalI_range2, ↓evalE_mul, ↓evalE_mod, ↓evalE_fdiv, ↓evalE_pow, evalSs, evalS, evalE, evalEs, evalT, evalI, evalO, evalC, SRes.seq_next, SRes.seq_ret, SRes.seq_err, SRes.seq_brk, SRes.seq_cnt, SRes.seq_stuck, Res.bind_ok, Res.bind_err, Res.bind_stuck, Res.st_ok, Res.st_err, Res.st_stuck, ofO_some, ofO_none, asP_d, getV_z, getV_s, Option.bind_some, Option.map_some, Option.bind_none, Option.map_none, biP, on1, ints2, unD, mkL_f, mkL_t, plain_d, truthP, List.set_cons_zero, List.set_cons_succ, ofOS, unpackV, setAll, setAllD, bindT, ite_tru, ite_fls, if_true, if_false, reduceIte, Bool.false_eq_true, Bool.not_true, Bool.not_false, retv_ok, isi_int, isi_bool, isi_tup, bLen, seqV, seqP_t, seqP_l, lstP, intsV, eq_i, ne_i, le_i, lt_i, gt_i, ge_i, add_i, sub_i, itemsOf, enumOf, Int.cast_ofNat_Int, Int.natCast_one, List.length_map, Int.reduceEq, Int.reduceLT, Int.reduceLE, List.getElem?_cons_succ, List.getElem?_cons_zero, g0, g2, c0, decide_true, asP, nn, List.isEmpty_nil, List.map_nil]
      rw [c0] at this
      exact this
    | cons c cs =>
      have nn := ne_nil (c :: cs)
      simp only [List.map_cons] at nn
      have pp : ∀ R, popD (.ref 0) [.d (.int 0)] (.lst (.int c :: cs.map .int) :: R) = .ok (.d (.int c)) (.lst (cs.map .int) :: R) := fun R => by
        have := popD_i (S := .lst (.int c :: cs.map .int) :: R) (i := 0) (v := 0) (xs := .int c :: cs.map .int) (x := .int c) rfl rfl (by decide)
        exact this
      have rc : ∀ R, recv (.ref 0) (.lst (.int c :: cs.map .int) :: R) = true := fun R => rfl
      have la : ∀ R, lstAt (.lst (.int c :: cs.map .int) :: R) 0 = some (.int c :: cs.map .int) := fun R => rfl
      simp only [startL, List.map_cons, List.map_nil, List.length_cons, List.length_nil, List.replicate, List.replicate_succ, List.replicate_zero, List.cons_append, List.nil_append, List.append_nil, Nat.reduceAdd, Nat.reduceSub, Nat.zero_add, ↓evalE_popAt, ↓evalI_range1, ↓evalI_range2, ↓evalE_mul, ↓evalE_mod, ↓evalE_fdiv, ↓evalE_pow, evalSs, evalS, evalE, evalEs, evalT, evalI, evalO, evalC, SRes.seq_next, SRes.seq_ret, SRes.seq_err, SRes.seq_brk, SRes.seq_cnt, SRes.seq_stuck, Res.bind_ok, Res.bind_err, Res.bind_stuck, Res.st_ok, Res.st_err, Res.st_stuck, ofO_some, ofO_none, asP_d, getV_z, getV_s, Option.bind_some, Option.map_some, Option.bind_none, Option.map_none, biP, on1, ints2, unD, mkL_f, mkL_t, plain_d, truthP, List.set_cons_zero, List.set_cons_succ, ofOS, unpackV, setAll, setAllD, bindT, ite_tru, ite_fls, if_true, if_false, reduceIte, Bool.false_eq_true, Bool.not_true, Bool.not_false, retv_ok, isi_int, isi_bool, isi_tup, bLen, seqV, seqP_t, seqP_l, lstP, intsV, eq_i, ne_i, le_i, lt_i, gt_i, ge_i, add_i, sub_i, itemsOf, enumOf, Int.cast_ofNat_Int, Int.natCast_one, List.length_map, Int.reduceEq, Int.reduceLT, Int.reduceLE, List.getElem?_cons_succ, List.getElem?_cons_zero, g0, g1, g2, c0, decide_true, asP, nn, List.isEmpty_cons, rc, la, methP, pp, bInt, k2, k3, m1, pow_18, s0, s1]
      by_cases c1 : 0 ≤ c
      · simp only [c1, decide_true, ↓evalE_popAt, ↓evalI_range1, ↓evalI_range2, ↓evalE_mul, ↓evalE_mod, ↓evalE_fdiv, ↓evalE_pow, evalSs, evalS, evalE, evalEs, evalT, evalI, evalO, evalC, SRes.seq_next, SRes.seq_ret, SRes.seq_err, SRes.seq_brk, SRes.seq_cnt, SRes.seq_stuck, Res.bind_ok, Res.bind_err, Res.bind_stuck, Res.st_ok, Res.st_err, Res.st_stuck, ofO_some, ofO_none, asP_d, getV_z, getV_s, Option.bind_some, Option.map_some, Option.bind_none, Option.map_none, biP, on1, ints2, unD, mkL_f, mkL_t, plain_d, truthP, List.set_cons_zero, List.set_cons_succ, ofOS, unpackV, setAll, setAllD, bindT, ite_tru, ite_fls, if_true, if_false, reduceIte, Bool.false_eq_true, Bool.not_true, Bool.not_false, retv_ok, isi_int, isi_bool, isi_tup, bLen, seqV, seqP_t, seqP_l, lstP, intsV, eq_i, ne_i, le_i, lt_i, gt_i, ge_i, add_i, sub_i, itemsOf, enumOf, Int.cast_ofNat_Int, Int.natCast_one, List.length_map, Int.reduceEq, Int.reduceLT, Int.reduceLE, k2, k3, m1, pow_18, s0, s1, g1, List.getElem?_cons_succ, List.getElem?_cons_zero, bInt]
        by_cases c2 : (10 : Int) ^ 18 ≤ 2 * c
        · simp only [c2, decide_true, ↓evalE_popAt, ↓evalI_range1, ↓evalI_range2, ↓evalE_mul, ↓evalE_mod, ↓evalE_fdiv, ↓evalE_pow, evalSs, evalS, evalE, evalEs, evalT, evalI, evalO, evalC, SRes.seq_next, SRes.seq_ret, SRes.seq_err, SRes.seq_brk, SRes.seq_cnt, SRes.seq_stuck, Res.bind_ok, Res.bind_err, Res.bind_stuck, Res.st_ok, Res.st_err, Res.st_stuck, ofO_some, ofO_none, asP_d, getV_z, getV_s, Option.bind_some, Option.map_some, Option.bind_none, Option.map_none, biP, on1, ints2, unD, mkL_f, mkL_t, plain_d, truthP, List.set_cons_zero, List.set_cons_succ, ofOS, unpackV, setAll, setAllD, bindT, ite_tru, ite_fls, if_true, if_false, reduceIte, Bool.false_eq_true, Bool.not_true, Bool.not_false, retv_ok, isi_int, isi_bool, isi_tup, bLen, seqV, seqP_t, seqP_l, lstP, intsV, eq_i, ne_i, le_i, lt_i, gt_i, ge_i, add_i, sub_i, itemsOf, enumOf, Int.cast_ofNat_Int, Int.natCast_one, List.length_map, Int.reduceEq, Int.reduceLT, Int.reduceLE, s0, s1, g1, List.getElem?_cons_succ, List.getElem?_cons_zero, bInt, k3, m1]
          exact tail ⟨2 * c, _, cs⟩ _ _ _
        · simp only [c2, decide_false, ↓evalE_popAt, ↓evalI_range1, ↓evalI_range2, ↓evalE_mul, ↓evalE_mod, ↓evalE_fdiv, ↓evalE_pow, evalSs, evalS, evalE, evalEs, evalT, evalI, evalO, evalC, SRes.seq_next, SRes.seq_ret, SRes.seq_err, SRes.seq_brk, SRes.seq_cnt, SRes.seq_stuck, Res.bind_ok, Res.bind_err, Res.bind_stuck, Res.st_ok, Res.st_err, Res.st_stuck, ofO_some, ofO_none, asP_d, getV_z, getV_s, Option.bind_some, Option.map_some, Option.bind_none, Option.map_none, biP, on1, ints2, unD, mkL_f, mkL_t, plain_d, truthP, List.set_cons_zero, List.set_cons_succ, ofOS, unpackV, setAll, setAllD, bindT, ite_tru, ite_fls, if_true, if_false, reduceIte, Bool.false_eq_true, Bool.not_true, Bool.not_false, retv_ok, isi_int, isi_bool, isi_tup, bLen, seqV, seqP_t, seqP_l, lstP, intsV, eq_i, ne_i, le_i, lt_i, gt_i, ge_i, add_i, sub_i, itemsOf, enumOf, Int.cast_ofNat_Int, Int.natCast_one, List.length_map, Int.reduceEq, Int.reduceLT, Int.reduceLE, s0, s1, g1, List.getElem?_cons_succ, List.getElem?_cons_zero, bInt, k3, m1]
          exact tail ⟨0, _, cs⟩ _ _ _
      · simp only [c1, decide_false, ↓evalE_popAt, ↓evalI_range1, ↓evalI_range2, ↓evalE_mul, ↓evalE_mod, ↓evalE_fdiv, ↓evalE_pow, evalSs, evalS, evalE, evalEs, evalT, evalI, evalO, evalC, SRes.seq_next, SRes.seq_ret, SRes.seq_err, SRes.seq_brk, SRes.seq_cnt, SRes.seq_stuck, Res.bind_ok, Res.bind_err, Res.bind_stuck, Res.st_ok, Res.st_err, Res.st_stuck, ofO_some, ofO_none, asP_d, getV_z, getV_s, Option.bind_some, Option.map_some, Option.bind_none, Option.map_none, biP, on1, ints2, unD, mkL_f, mkL_t, plain_d, truthP, List.set_cons_zero, List.set_cons_succ, ofOS, unpackV, setAll, setAllD, bindT, ite_tru, ite_fls, if_true, if_false, reduceIte, Bool.false_eq_true, Bool.not_true, Bool.not_false, retv_ok, isi_int, isi_bool, isi_tup, bLen, seqV, seqP_t, seqP_l, lstP, intsV, eq_i, ne_i, le_i, lt_i, gt_i, ge_i, add_i, sub_i, itemsOf, enumOf, Int.cast_ofNat_Int, Int.natCast_one, List.length_map, Int.reduceEq, Int.reduceLT, Int.reduceLE, k2, k3, m1, pow_18, s0, s1, g1, List.getElem?_cons_succ, List.getElem?_cons_zero, bInt]
        by_cases c2 : (10 : Int) ^ 18 ≤ -1 - 2 * c
        · simp only [c2, decide_true, ↓evalE_popAt, ↓evalI_range1, ↓evalI_range2, ↓evalE_mul, ↓evalE_mod, ↓evalE_fdiv, ↓evalE_pow, evalSs, evalS, evalE, evalEs, evalT, evalI, evalO, evalC, SRes.seq_next, SRes.seq_ret, SRes.seq_err, SRes.seq_brk, SRes.seq_cnt, SRes.seq_stuck, Res.bind_ok, Res.bind_err, Res.bind_stuck, Res.st_ok, Res.st_err, Res.st_stuck, ofO_some, ofO_none, asP_d, getV_z, getV_s, Option.bind_some, Option.map_some, Option.bind_none, Option.map_none, biP, on1, ints2, unD, mkL_f, mkL_t, plain_d, truthP, List.set_cons_zero, List.set_cons_succ, ofOS, unpackV, setAll, setAllD, bindT, ite_tru, ite_fls, if_true, if_false, reduceIte, Bool.false_eq_true, Bool.not_true, Bool.not_false, retv_ok, isi_int, isi_bool, isi_tup, bLen, seqV, seqP_t, seqP_l, lstP, intsV, eq_i, ne_i, le_i, lt_i, gt_i, ge_i, add_i, sub_i, itemsOf, enumOf, Int.cast_ofNat_Int, Int.natCast_one, List.length_map, Int.reduceEq, Int.reduceLT, Int.reduceLE, s0, s1, g1, List.getElem?_cons_succ, List.getElem?_cons_zero, bInt, k3, m1]
          exact tail ⟨-1 - 2 * c, _, cs⟩ _ _ _
        · simp only [c2, decide_false, ↓evalE_popAt, ↓evalI_range1, ↓evalI_range2, ↓evalE_mul, ↓evalE_mod, ↓evalE_fdiv, ↓evalE_pow, evalSs, evalS, evalE, evalEs, evalT, evalI, evalO, evalC, SRes.seq_next, SRes.seq_ret, SRes.seq_err, SRes.seq_brk, SRes.seq_cnt, SRes.seq_stuck, Res.bind_ok, Res.bind_err, Res.bind_stuck, Res.st_ok, Res.st_err, Res.st_stuck, ofO_some, ofO_none, asP_d, getV_z, getV_s, Option.bind_some, Option.map_some, Option.bind_none, Option.map_none, biP, on1, ints2, unD, mkL_f, mkL_t, plain_d, truthP, List.set_cons_zero, List.set_cons_succ, ofOS, unpackV, setAll, setAllD, bindT, ite_tru, ite_fls, if_true, if_false, reduceIte, Bool.false_eq_true, Bool.not_true, Bool.not_false, retv_ok, isi_int, isi_bool, isi_tup, bLen, seqV, seqP_t, seqP_l, lstP, intsV, eq_i, ne_i, le_i, lt_i, gt_i, ge_i, add_i, sub_i, itemsOf, enumOf, Int.cast_ofNat_Int, Int.natCast_one, List.length_map, Int.reduceEq, Int.reduceLT, Int.reduceLE, s0, s1, g1, List.getElem?_cons_succ, List.getElem?_cons_zero, bInt, k3, m1]
          exact tail ⟨0, _, cs⟩ _ _ _
  · simp only [startL, List.map_cons, List.map_nil, List.length_cons, List.length_nil, List.replicate, List.replicate_succ, List.replicate_zero, List.cons_append, List.nil_append, List.append_nil, Nat.reduceAdd, Nat.reduceSub, Nat.zero_add, ↓evalE_popAt, ↓evalI_range1, ↓evalI_range2, ↓evalE_mul, ↓evalE_mod, ↓evalE_fdiv, ↓evalE_pow, evalSs, evalS, evalE, evalEs, evalT, evalI, evalO, evalC, SRes.seq_next, SRes.seq_ret, SRes.seq_err, SRes.seq_brk, SRes.seq_cnt, SRes.seq_stuck, Res.bind_ok, Res.bind_err, Res.bind_stuck, Res.st_ok, Res.st_err, Res.st_stuck, ofO_some, ofO_none, asP_d, getV_z, getV_s, Option.bind_some, Option.map_some, Option.bind_none, Option.map_none, biP, on1, ints2, unD, mkL_f, mkL_t, plain_d, truthP, List.set_cons_zero, List.set_cons_succ, ofOS, unpackV, setAll, setAllD, bindT, ite_tru, ite_fls, if_true, if_false, reduceIte, Bool.false_eq_true, Bool.not_true, Bool.not_false, retv_ok, isi_int, isi_bool, isi_tup, bLen, seqV, seqP_t, seqP_l, lstP, intsV, eq_i, ne_i, le_i, lt_i, gt_i, ge_i, add_i, sub_i, itemsOf, enumOf, Int.cast_ofNat_Int, Int.natCast_one, List.length_map, Int.reduceEq, Int.reduceLT, Int.reduceLE, List.getElem?_cons_succ, List.getElem?_cons_zero, g0, c0, decide_false]
    exact tail p none none none
end EvP
end
section
set_option maxRecDepth 100000
set_option maxHeartbeats 1000000
/-! EvP8: drawn webs. -/
namespace EvP
open Ev PySem L2 MW
theorem pst_len (p : Pool) (R : Sto) : (pst p ++ R).length = R.length + 2 := by simp [pst]
/-- a list beside the pool -/
theorem at0 (p : Pool) (R : Sto) (a b : OB) : (pst p ++ (R ++ [a, b]))[R.length + 2]? = some a := by simp [pst]
theorem at1 (p : Pool) (R : Sto) (a b : OB) : (pst p ++ (R ++ [a, b]))[R.length + 3]? = some b := by
  rw [← List.append_assoc, List.getElem?_append_right (by simp [pst])]; simp [pst]
theorem set0 (p : Pool) (R : Sto) (a b c : OB) : (pst p ++ (R ++ [a, b])).set (R.length + 2) c = pst p ++ (R ++ [c, b]) := by simp [pst]
theorem set1 (p : Pool) (R : Sto) (a b c : OB) : (pst p ++ (R ++ [a, b])).set (R.length + 3) c = pst p ++ (R ++ [a, c]) := by
  have e : R.length + 3 = (pst p).length + (R.length + 1) := by simp [pst]; omega
  rw [e, List.set_append_right _ _ (by omega)]
  simp
theorem atD (p : Pool) (R : Sto) (a : OB) : (pst p ++ (R ++ [a]))[R.length + 2]? = some a := by simp [pst]
theorem setD (p : Pool) (R : Sto) (a c : OB) : (pst p ++ (R ++ [a])).set (R.length + 2) c = pst p ++ (R ++ [c]) := by simp [pst]
theorem rangeP_cons {a n : Nat} (h : a < n) : rangeP (a : Int) (n : Int) = .int (a : Int) :: rangeP ((a + 1 : Nat) : Int) (n : Int) := by
  unfold rangeP
  have e : ((n : Int) - (a : Int)).toNat = ((n : Int) - ((a + 1 : Nat) : Int)).toNat + 1 := by omega
  rw [e, List.range_succ_eq_map, List.map_cons, List.map_map]
  simp only [List.cons.injEq]
  refine ⟨by simp, ?_⟩
  congr 1
  funext k
  simp only [Function.comp]
  congr 1
  omega
theorem rangeP_nil {a n : Nat} (h : n ≤ a) : rangeP (a : Int) (n : Int) = [] := by
  unfold rangeP
  rw [show ((n : Int) - (a : Int)).toNat = 0 by omega]; rfl
theorem rangeP_len (a n : Nat) : (rangeP (a : Int) (n : Int)).length = n - a := by
  unfold rangeP; rw [List.length_map, List.length_range]; omega
theorem eraseIdx_perm {α : Type} : ∀ {l : List α} {i : Nat} (h : i < l.length), (l[i] :: l.eraseIdx i).Perm l
  | x :: l, 0, _ => by simp
  | x :: l, i + 1, h => by
    have ih := eraseIdx_perm (l := l) (i := i) (by simpa using h)
    simp only [List.getElem_cons_succ, List.eraseIdx_cons_succ]
    exact (List.Perm.swap x _ _).trans (ih.cons x)
theorem eraseIdx_map' {α β : Type} (f : α → β) : ∀ (l : List α) (i : Nat), (l.map f).eraseIdx i = (l.eraseIdx i).map f
  | [], _ => rfl
  | x :: l, 0 => rfl
  | x :: l, i + 1 => by simp [eraseIdx_map' f l i]
variable {T : String → Option Fn} {wn : Nat} (t : TP T)
include t
theorem pick_i (d : Nat) {R : Sto} (hR : NB R) (p : Pool) {ps : List PyData} (h0 : 0 < ps.length) (h1 : ps.length < 1000000) :
    ∃ x p', x ∈ ps ∧ callF T wn (d + 2) "_law_pick" [.ref 1, .d (.list ps)] (pst p ++ R) = .ok (.d x) (pst p' ++ R) := by
  obtain ⟨v, p', hv, e⟩ := draw_i (wn := wn) t d hR p h0 h1
  refine ⟨ps[v], p', List.getElem_mem hv, ?_⟩
  have ix : ixP (.list ps) (.int (v : Int)) = some ps[v] := atI_nat (List.getElem?_eq_getElem hv)
  rw [callF_eq t.pick rfl, C.t__law_pick]
  simp only [startL, List.map_cons, List.map_nil, List.length_cons, List.length_nil, List.replicate, List.replicate_succ, List.replicate_zero, List.cons_append, List.nil_append, List.append_nil, Nat.reduceAdd, Nat.reduceSub, Nat.zero_add, ↓evalE_popAt, ↓evalI_range1, ↓evalI_range2, ↓evalE_mul, ↓evalE_mod, ↓evalE_fdiv, ↓evalE_pow, evalSs, evalS, evalE, evalEs, evalT, evalI, evalO, evalC, SRes.seq_next, SRes.seq_ret, SRes.seq_err, SRes.seq_brk, SRes.seq_cnt, SRes.seq_stuck, Res.bind_ok, Res.bind_err, Res.bind_stuck, Res.st_ok, Res.st_err, Res.st_stuck, ofO_some, ofO_none, asP_d, getV_z, getV_s, Option.bind_some, Option.map_some, Option.bind_none, Option.map_none, biP, on1, ints2, unD, mkL_f, mkL_t, plain_d, truthP, List.set_cons_zero, List.set_cons_succ, ofOS, unpackV, setAll, setAllD, bindT, ite_tru, ite_fls, if_true, if_false, reduceIte, Bool.false_eq_true, Bool.not_true, Bool.not_false, retv_ok, isi_int, isi_bool, isi_tup, bLen, seqV, seqP_t, seqP_l, lstP, intsV, eq_i, ne_i, le_i, lt_i, gt_i, ge_i, add_i, sub_i, itemsOf, enumOf, Int.cast_ofNat_Int, Int.natCast_one, List.length_map, Int.reduceEq, Int.reduceLT, Int.reduceLE, e, ix]
  exact ret_p (cl_pst hR p') (by rw [pst_len, pst_len]) _
theorem way_i {S : Sto} (hS : Cl S) (d : Nat) (a b c : Nat) : callF T wn (d + 1) "_law_web_way" [.d (.int a), .d (.int b), .d (.int c)] S = .ok (.d (wy (min a b, max a b, c))) S := by
  rw [callF_eq t.way rfl, C.t__law_web_way]
  simp only [startL, List.map_cons, List.map_nil, List.length_cons, List.length_nil, List.replicate, List.replicate_succ, List.replicate_zero, List.cons_append, List.nil_append, List.append_nil, Nat.reduceAdd, Nat.reduceSub, Nat.zero_add, ↓evalE_popAt, ↓evalI_range1, ↓evalI_range2, ↓evalE_mul, ↓evalE_mod, ↓evalE_fdiv, ↓evalE_pow, evalSs, evalS, evalE, evalEs, evalT, evalI, evalO, evalC, SRes.seq_next, SRes.seq_ret, SRes.seq_err, SRes.seq_brk, SRes.seq_cnt, SRes.seq_stuck, Res.bind_ok, Res.bind_err, Res.bind_stuck, Res.st_ok, Res.st_err, Res.st_stuck, ofO_some, ofO_none, asP_d, getV_z, getV_s, Option.bind_some, Option.map_some, Option.bind_none, Option.map_none, biP, on1, ints2, unD, mkL_f, mkL_t, plain_d, truthP, List.set_cons_zero, List.set_cons_succ, ofOS, unpackV, setAll, setAllD, bindT, ite_tru, ite_fls, if_true, if_false, reduceIte, Bool.false_eq_true, Bool.not_true, Bool.not_false, retv_ok, isi_int, isi_bool, isi_tup, bLen, seqV, seqP_t, seqP_l, lstP, intsV, eq_i, ne_i, le_i, lt_i, gt_i, ge_i, add_i, sub_i, itemsOf, enumOf, Int.cast_ofNat_Int, Int.natCast_one, List.length_map, Int.reduceEq, Int.reduceLT, Int.reduceLE, min_i, max_i, retv_ok hS]
  rfl
theorem days_i (d : Nat) {R : Sto} (hR : NB R) (p : Pool) {m : Nat} (h0 : 1 ≤ m) (h1 : m ≤ 1000) :
    ∃ x p', 1 ≤ x ∧ x ≤ m ∧ callF T wn (d + 3) "_law_web_days" [.ref 1, .d (.int m)] (pst p ++ R) = .ok (.d (.int (x : Nat))) (pst p' ++ R) := by
  have e2 : (if (2 : Int) < (m : Int) then 2 else (m : Int)) = ((min m 2 : Nat) : Int) := by split <;> omega
  have e3 : (if (3 : Int) < (m : Int) then 3 else (m : Int)) = ((min m 3 : Nat) : Int) := by split <;> omega
  obtain ⟨x, p1, hx, e⟩ := pick_i (wn := wn) t d hR p (ps := [.int ((min m 2 : Nat) : Int), .int ((min m 3 : Nat) : Int), .int (m : Int)]) (by simp) (by simp)
  have : ∃ y : Nat, 1 ≤ y ∧ y ≤ m ∧ x = .int y := by
    simp only [List.mem_cons, List.not_mem_nil, or_false] at hx
    rcases hx with e | e | e
    · exact ⟨_, by omega, by omega, e⟩
    · exact ⟨_, by omega, by omega, e⟩
    · exact ⟨_, by omega, by omega, e⟩
  obtain ⟨y, hy, hy2, ex⟩ := this
  subst ex
  obtain ⟨v, p2, hv, ev⟩ := draw_i (wn := wn) t (d + 1) hR p1 (n := y) (by omega) (by omega)
  refine ⟨1 + v, p2, by omega, by omega, ?_⟩
  rw [callF_eq t.days rfl, C.t__law_web_days]
  simp only [startL, List.map_cons, List.map_nil, List.length_cons, List.length_nil, List.replicate, List.replicate_succ, List.replicate_zero, List.cons_append, List.nil_append, List.append_nil, Nat.reduceAdd, Nat.reduceSub, Nat.zero_add, ↓evalE_popAt, ↓evalI_range1, ↓evalI_range2, ↓evalE_mul, ↓evalE_mod, ↓evalE_fdiv, ↓evalE_pow, evalSs, evalS, evalE, evalEs, evalT, evalI, evalO, evalC, SRes.seq_next, SRes.seq_ret, SRes.seq_err, SRes.seq_brk, SRes.seq_cnt, SRes.seq_stuck, Res.bind_ok, Res.bind_err, Res.bind_stuck, Res.st_ok, Res.st_err, Res.st_stuck, ofO_some, ofO_none, asP_d, getV_z, getV_s, Option.bind_some, Option.map_some, Option.bind_none, Option.map_none, biP, on1, ints2, unD, mkL_f, mkL_t, plain_d, truthP, List.set_cons_zero, List.set_cons_succ, ofOS, unpackV, setAll, setAllD, bindT, ite_tru, ite_fls, if_true, if_false, reduceIte, Bool.false_eq_true, Bool.not_true, Bool.not_false, retv_ok, isi_int, isi_bool, isi_tup, bLen, seqV, seqP_t, seqP_l, lstP, intsV, eq_i, ne_i, le_i, lt_i, gt_i, ge_i, add_i, sub_i, itemsOf, enumOf, Int.cast_ofNat_Int, Int.natCast_one, List.length_map, Int.reduceEq, Int.reduceLT, Int.reduceLE, e2, e3, e, ev]
  rw [show (1 : Int) + (v : Int) = ((1 + v : Nat) : Int) by omega]
  exact ret_p (cl_pst hR p2) (by rw [pst_len, pst_len]) _
theorem turned_i (d : Nat) {R : Sto} (hR : NB R) (p : Pool) {n : Nat} (h1 : n ≤ 1000) :
    ∃ ns p', ns.Perm (List.range n) ∧ callF T wn (d + 2) "_law_turned" [.ref 1, .d (.int n)] (pst p ++ R) = .ok (.d (.list (nats ns))) (pst p' ++ R) := by
  have hr : (n : Int) ≤ (LIM : Int) ∧ -(2 ^ 62) ≤ (n : Int) := by unfold LIM; omega
  have l1 : (pst p ++ R ++ [OB.lst (nats (List.range n))]).length = R.length + 3 := by simp [pst]
  rw [callF_eq t.turned rfl, C.t__law_turned]
  simp only [startL, List.map_cons, List.map_nil, List.length_cons, List.length_nil, List.replicate, List.replicate_succ, List.replicate_zero, List.cons_append, List.nil_append, List.append_nil, Nat.reduceAdd, Nat.reduceSub, Nat.zero_add, ↓evalE_popAt, ↓evalI_range1, ↓evalI_range2, ↓evalE_mul, ↓evalE_mod, ↓evalE_fdiv, ↓evalE_pow, evalSs, evalS, evalE, evalEs, evalT, evalI, evalO, evalC, SRes.seq_next, SRes.seq_ret, SRes.seq_err, SRes.seq_brk, SRes.seq_cnt, SRes.seq_stuck, Res.bind_ok, Res.bind_err, Res.bind_stuck, Res.st_ok, Res.st_err, Res.st_stuck, ofO_some, ofO_none, asP_d, getV_z, getV_s, Option.bind_some, Option.map_some, Option.bind_none, Option.map_none, biP, on1, ints2, unD, mkL_f, mkL_t, plain_d, truthP, List.set_cons_zero, List.set_cons_succ, ofOS, unpackV, setAll, setAllD, bindT, ite_tru, ite_fls, if_true, if_false, reduceIte, Bool.false_eq_true, Bool.not_true, Bool.not_false, retv_ok, isi_int, isi_bool, isi_tup, bLen, seqV, seqP_t, seqP_l, lstP, intsV, eq_i, ne_i, le_i, lt_i, gt_i, ge_i, add_i, sub_i, itemsOf, enumOf, Int.cast_ofNat_Int, Int.natCast_one, List.length_map, Int.reduceEq, Int.reduceLT, Int.reduceLE, bRange, if_pos hr, rg1_i h1, rangeP_nat, l1, pst_len]
  rw [show pst p ++ R ++ [OB.lst (nats (List.range n))] ++ [OB.lst []] = pst p ++ (R ++ [.lst (nats (List.range n)), .lst (nats [])]) by simp [nats]]
  refine for_then (P := fun r => ∃ ns p', ns.Perm (List.range n) ∧ outF false (R.length + 2) r = .ok (.d (.list (nats ns))) (pst p' ++ R)) (fun xs l S1 => ∃ (q : Pool) (left found : List Nat) (j : Option DV), l = [some (.ref 1), some (.d (.int n)), j, some (.ref (R.length + 2)), some (.ref (R.length + 3))] ∧ S1 = pst q ++ (R ++ [.lst (nats left), .lst (nats found)]) ∧ left.length = xs.length ∧ (found ++ left).Perm (List.range n))
    ⟨p, List.range n, [], none, rfl, rfl, by simp [nats], by simp⟩ ?_ ?_
  · rintro x r l S1 ⟨q, left, found, j, e1, e2, e3, e4⟩
    have hR2 : NB (R ++ [.lst (nats left), .lst (nats found)]) := by
      have := (hR.add (o := .lst (nats left)) (by intro _ h; cases h)).add (o := .lst (nats found)) (by intro _ h; cases h)
      simpa using this
    have l0 : 0 < left.length := by rw [e3]; simp
    have ln : left.length ≤ n := by have := e4.length_eq; simp at this; omega
    obtain ⟨v, q', hv, ev⟩ := draw_i (wn := wn) t d hR2 q l0 (by omega)
    have a0 := at0 q' R (.lst (nats left)) (.lst (nats found))
    have r0 : ∀ q : Pool, recv (.ref (R.length + 2)) (pst q ++ (R ++ [.lst (nats left), .lst (nats found)])) = true := fun q => by simp [recv, lstAt, at0]
    have r1 : ∀ (q : Pool) left found, recv (.ref (R.length + 3)) (pst q ++ (R ++ [.lst (nats left), .lst (nats found)])) = true := fun q left found => by simp [recv, lstAt, at1]
    have as0 : ∀ q : Pool, asP (pst q ++ (R ++ [.lst (nats left), .lst (nats found)])) (.ref (R.length + 2)) = some (.list (nats left)) := fun q => by simp [asP, at0]
    have la0 : ∀ q : Pool, lstAt (pst q ++ (R ++ [.lst (nats left), .lst (nats found)])) (R.length + 2) = some (nats left) := fun q => by simp [lstAt, at0]
    have la1 : ∀ (q : Pool) left found, lstAt (pst q ++ (R ++ [.lst (nats left), .lst (nats found)])) (R.length + 3) = some (nats found) := fun q left found => by simp [lstAt, at1]
    have pp : popD (.ref (R.length + 2)) [.d (.int (v : Nat))] (pst q' ++ (R ++ [.lst (nats left), .lst (nats found)])) = .ok (.d (.int (left[v] : Nat))) (pst q' ++ (R ++ [.lst (nats (left.eraseIdx v)), .lst (nats found)])) := by
      have g : (nats left)[v]? = some (.int (left[v] : Nat)) := by unfold nats; rw [List.getElem?_map, List.getElem?_eq_getElem hv]; rfl
      have e5 : (nats left).eraseIdx v = nats (left.eraseIdx v) := by unfold nats; rw [eraseIdx_map']
      rw [popD_i (la0 q') g (by omega), set0, e5]
    have fl : (nats found).length < LIM := by
      have := e4.length_eq; simp at this
      rw [nats_len]; unfold LIM; omega
    have ap : mAppend (pst q' ++ (R ++ [.lst (nats (left.eraseIdx v)), .lst (nats found)])) (R.length + 3) (nats found) [.d (.int (left[v] : Nat))] = .ok (.d .none) (pst q' ++ (R ++ [.lst (nats (left.eraseIdx v)), .lst (nats (found ++ [left[v]]))])) := by
      have e5 : nats found ++ [.int (left[v] : Nat)] = nats (found ++ [left[v]]) := by simp [nats]
      simp only [mAppend, if_pos fl, set1, e5]
    rw [e1, e2]
    simp only [forF, startL, List.map_cons, List.map_nil, List.length_cons, List.length_nil, List.replicate, List.replicate_succ, List.replicate_zero, List.cons_append, List.nil_append, List.append_nil, Nat.reduceAdd, Nat.reduceSub, Nat.zero_add, ↓evalE_popAt, ↓evalI_range1, ↓evalI_range2, ↓evalE_mul, ↓evalE_mod, ↓evalE_fdiv, ↓evalE_pow, evalSs, evalS, evalE, evalEs, evalT, evalI, evalO, evalC, SRes.seq_next, SRes.seq_ret, SRes.seq_err, SRes.seq_brk, SRes.seq_cnt, SRes.seq_stuck, Res.bind_ok, Res.bind_err, Res.bind_stuck, Res.st_ok, Res.st_err, Res.st_stuck, ofO_some, ofO_none, asP_d, getV_z, getV_s, Option.bind_some, Option.map_some, Option.bind_none, Option.map_none, biP, on1, ints2, unD, mkL_f, mkL_t, plain_d, truthP, List.set_cons_zero, List.set_cons_succ, ofOS, unpackV, setAll, setAllD, bindT, ite_tru, ite_fls, if_true, if_false, reduceIte, Bool.false_eq_true, Bool.not_true, Bool.not_false, retv_ok, isi_int, isi_bool, isi_tup, bLen, seqV, seqP_t, seqP_l, lstP, intsV, eq_i, ne_i, le_i, lt_i, gt_i, ge_i, add_i, sub_i, itemsOf, enumOf, Int.cast_ofNat_Int, Int.natCast_one, List.length_map, Int.reduceEq, Int.reduceLT, Int.reduceLE, r0, r1, as0, la0, la1, nats_len, ev, methP, pp, ap]
    refine ⟨_, _, rfl, rfl, q', _, _, _, rfl, rfl, ?_, ?_⟩
    · have := List.length_eraseIdx_of_lt hv
      simp only [List.length_cons] at e3
      omega
    · have := eraseIdx_perm hv
      refine List.Perm.trans ?_ e4
      rw [List.append_assoc]
      exact (List.Perm.refl found).append this
  · rintro l S1 ⟨q, left, found, j, e1, e2, e3, e4⟩
    have l0 : left = [] := by simpa using e3
    subst l0
    rw [e1, e2]
    refine ⟨found, q, by simpa using e4, ?_⟩
    simp only [↓evalE_popAt, ↓evalI_range1, ↓evalI_range2, ↓evalE_mul, ↓evalE_mod, ↓evalE_fdiv, ↓evalE_pow, evalSs, evalS, evalE, evalEs, evalT, evalI, evalO, evalC, SRes.seq_next, SRes.seq_ret, SRes.seq_err, SRes.seq_brk, SRes.seq_cnt, SRes.seq_stuck, Res.bind_ok, Res.bind_err, Res.bind_stuck, Res.st_ok, Res.st_err, Res.st_stuck, ofO_some, ofO_none, asP_d, getV_z, getV_s, Option.bind_some, Option.map_some, Option.bind_none, Option.map_none, biP, on1, ints2, unD, mkL_f, mkL_t, plain_d, truthP, List.set_cons_zero, List.set_cons_succ, ofOS, unpackV, setAll, setAllD, bindT, ite_tru, ite_fls, if_true, if_false, reduceIte, Bool.false_eq_true, Bool.not_true, Bool.not_false, retv_ok]
    have := retl_own (S := pst q ++ R) (R := [.lst (nats []), .lst (nats found)]) (i := 1) (cl_pst hR q) rfl
    rw [pst_len, List.append_assoc] at this
    exact this
end EvP
end
section
set_option maxRecDepth 100000
set_option maxHeartbeats 1000000
/-! EvP9: a drawn web. -/
namespace EvP
open Ev PySem L2 MW
def same2 (a b : Wy) : Prop := a.1 = b.1 ∧ a.2.1 = b.2.1
instance (a b : Wy) : Decidable (same2 a b) := inferInstanceAs (Decidable (_ ∧ _))
def kvOf (ws : List Wy) : List (List Int × PyData) := ws.map fun w => ([(w.1 : Int), (w.2.1 : Int)], wy w)
def putW (ws : List Wy) (w : Wy) : List Wy := if (ws.any fun x => decide (same2 x w)) = true then ws.map (fun x => if same2 x w then w else x) else ws ++ [w]
theorem key_eq (x w : Wy) : ([(x.1 : Int), (x.2.1 : Int)] = [(w.1 : Int), (w.2.1 : Int)]) ↔ same2 x w := by
  unfold same2
  simp only [List.cons.injEq, and_true]
  omega
theorem put_kv (ws : List Wy) (w : Wy) : putT (kvOf ws) [(w.1 : Int), (w.2.1 : Int)] (wy w) = kvOf (putW ws w) := by
  unfold putT putW
  have e : ((kvOf ws).any fun kv => decide (kv.1 = [(w.1 : Int), (w.2.1 : Int)])) = (ws.any fun x => decide (same2 x w)) := by
    unfold kvOf
    rw [List.any_map]
    congr 1
    funext x
    exact decide_eq_decide.mpr (key_eq x w)
  rw [e]
  split
  · unfold kvOf
    rw [List.map_map, List.map_map]
    refine List.map_congr_left fun x _ => ?_
    simp only [Function.comp]
    by_cases c : same2 x w
    · rw [if_pos ((key_eq x w).mpr c), if_pos c, c.1, c.2]
    · rw [if_neg fun q => c ((key_eq x w).mp q), if_neg c]
  · unfold kvOf; rw [List.map_append]; rfl
theorem look_kv (ws : List Wy) (w : Wy) : (lookT (kvOf ws) [(w.1 : Int), (w.2.1 : Int)]).isNone = !(ws.any fun x => decide (same2 x w)) := by
  unfold lookT
  rw [Option.isNone_map]
  have e : ((kvOf ws).any fun kv => decide (kv.1 = [(w.1 : Int), (w.2.1 : Int)])) = (ws.any fun x => decide (same2 x w)) := by
    unfold kvOf
    rw [List.any_map]
    congr 1
    funext x
    exact decide_eq_decide.mpr (key_eq x w)
  rw [← e]
  cases q : (kvOf ws).find? fun kv => decide (kv.1 = [(w.1 : Int), (w.2.1 : Int)]) with
  | none =>
    rw [List.find?_eq_none] at q
    rw [List.any_eq_false.mpr q]; rfl
  | some v =>
    have := List.find?_some q
    rw [List.any_eq_true.mpr ⟨v, List.mem_of_find?_eq_some q, this⟩]; rfl
theorem kv_len (ws : List Wy) : (kvOf ws).length = ws.length := by simp [kvOf]
theorem kv_vals (ws : List Wy) : (kvOf ws).map (·.2) = wys ws := by unfold kvOf wys; rw [List.map_map]; rfl
/-- what a dict of ways holds -/
structure DOk (n m : Nat) (ws : List Wy) : Prop where
  uv : ∀ w, w ∈ ws → w.1 < w.2.1 ∧ w.2.1 < n ∧ 1 ≤ w.2.2 ∧ w.2.2 ≤ m
  nd : ws.Pairwise fun a b => ¬ (a.1 = b.1 ∧ a.2.1 = b.2.1)
theorem putW_len (ws : List Wy) (w : Wy) : (putW ws w).length ≤ ws.length + 1 := by
  unfold putW
  split <;> simp
theorem putW_mem {ws : List Wy} {w x : Wy} (h : x ∈ putW ws w) : x ∈ ws ∨ x = w := by
  unfold putW at h
  split at h
  · obtain ⟨y, hy, e⟩ := List.mem_map.mp h
    split at e
    · exact .inr e.symm
    · exact .inl (e ▸ hy)
  · rcases List.mem_append.mp h with a | a
    · exact .inl a
    · exact .inr (List.mem_singleton.mp a)
theorem putW_self (ws : List Wy) (w : Wy) : w ∈ putW ws w := by
  unfold putW
  split
  · rename_i h
    obtain ⟨x, hx, e⟩ := List.any_eq_true.mp h
    have e := of_decide_eq_true e
    exact List.mem_map.mpr ⟨x, hx, if_pos e⟩
  · simp
theorem putW_conn {ws : List Wy} {w : Wy} {i j : Nat} (h : Conn ws i j) : Conn (putW ws w) i j := by
  have edge : ∀ a b d, (a, b, d) ∈ ws → ∃ d', (a, b, d') ∈ putW ws w := fun a b d m => by
    unfold putW
    split
    · by_cases c : same2 (a, b, d) w
      · refine ⟨w.2.2, List.mem_map.mpr ⟨(a, b, d), m, ?_⟩⟩
        rw [if_pos c]
        exact wy_ext c.1.symm c.2.symm rfl
      · exact ⟨d, List.mem_map.mpr ⟨(a, b, d), m, if_neg c⟩⟩
    · exact ⟨d, List.mem_append_left _ m⟩
  induction h with
  | refl => exact .refl _
  | fwd _ m ih =>
    obtain ⟨d', m'⟩ := edge _ _ _ m
    exact .fwd ih m'
  | bwd _ m ih =>
    obtain ⟨d', m'⟩ := edge _ _ _ m
    exact .bwd ih m'
theorem DOk.put {n m : Nat} {ws : List Wy} {w : Wy} (h : DOk n m ws) (hw : w.1 < w.2.1 ∧ w.2.1 < n ∧ 1 ≤ w.2.2 ∧ w.2.2 ≤ m) : DOk n m (putW ws w) := by
  refine ⟨fun x hx => ?_, ?_⟩
  · rcases putW_mem hx with a | a
    · exact h.uv x a
    · exact a ▸ hw
  · unfold putW
    split
    · refine List.pairwise_map.mpr (h.nd.imp fun {a b} q => ?_)
      have e : ∀ x : Wy, (if same2 x w then w else x).1 = x.1 ∧ (if same2 x w then w else x).2.1 = x.2.1 := fun x => by
        split
        · rename_i c; exact ⟨c.1.symm, c.2.symm⟩
        · exact ⟨rfl, rfl⟩
      rw [(e a).1, (e a).2, (e b).1, (e b).2]
      exact q
    · rename_i c
      refine List.pairwise_append.mpr ⟨h.nd, by simp, fun a ha b hb => ?_⟩
      rw [List.mem_singleton.mp hb]
      intro q
      exact c (List.any_eq_true.mpr ⟨a, ha, decide_eq_true q⟩)
theorem DOk.web {n m : Nat} {ws : List Wy} (h : DOk n m ws) (h1 : 1 ≤ n) (h40 : n ≤ 40) (hm : m ≤ 200) (hw : Whole n ws) : WebOk n (sortU ws) :=
  ⟨h1, h40, fun w mw => by have := h.uv w (sortU_perm.mem_iff.mp mw); omega, strict_sort h.nd, hw.perm sortU_perm.symm⟩
theorem perm_getD {ns : List Nat} {n : Nat} (h : ns.Perm (List.range n)) : ns.length = n ∧ (∀ i, i < n → ns.getD i 0 < n) ∧ (∀ i j, i < n → j < n → ns.getD i 0 = ns.getD j 0 → i = j) ∧ ∀ x, x < n → ∃ i, i < n ∧ ns.getD i 0 = x := by
  have hl : ns.length = n := by have := h.length_eq; simpa using this
  refine ⟨hl, fun i hi => ?_, fun i j hi hj e => ?_, fun x hx => ?_⟩
  · rw [getD_lt (by omega)]
    have := h.mem_iff.mp (List.getElem_mem (l := ns) (n := i) (by omega))
    simpa using this
  · rw [getD_lt (by omega), getD_lt (by omega)] at e
    have nd : ns.Nodup := h.nodup_iff.mpr List.nodup_range
    exact (List.getElem_inj nd).mp e
  · have : x ∈ ns := h.mem_iff.mpr (by simpa using hx)
    obtain ⟨i, hi, e⟩ := List.getElem_of_mem this
    exact ⟨i, by omega, by rw [getD_lt hi, e]⟩
theorem whole_of {ns : List Nat} {n : Nat} {ws : List Wy} (h : ns.Perm (List.range n)) (hn : 0 < n) (c : ∀ i, i < n → Conn ws (ns.getD 0 0) (ns.getD i 0)) : Whole n ws := fun x hx => by
  obtain ⟨_, _, _, sur⟩ := perm_getD h
  obtain ⟨i, hi, ei⟩ := sur x hx
  obtain ⟨j, hj, ej⟩ := sur 0 hn
  have a := c i hi
  have b := c j hj
  rw [ei] at a
  rw [ej] at b
  exact b.symm.trans a
theorem wy_of {a b c : Nat} (h : a ≠ b) : (min a b) < (max a b) := by omega
theorem conn_mm {ws : List Wy} {a b c : Nat} (h : (min a b, max a b, c) ∈ ws) : Conn ws a b := by
  rcases Nat.le_total a b with q | q
  · rw [Nat.min_eq_left q, Nat.max_eq_right q] at h; exact .of h
  · rw [Nat.min_eq_right q, Nat.max_eq_left q] at h; exact (Conn.of h).symm
variable {T : String → Option Fn} {wn : Nat} (t : TP T)
include t
theorem drawn_i (d : Nat) {R : Sto} (hR : NB R) (p : Pool) {n m f : Nat} (h1 : 1 ≤ n) (h40 : n ≤ 40) (hm1 : 1 ≤ m) (hm : m ≤ 200) (hf : f ≤ 100) :
    ∃ ls p', WebOk n ls ∧ (∀ w, w ∈ ls → w.2.2 ≤ m) ∧ ls.length ≤ n + f ∧ callF T wn (d + 4) "_law_web_drawn" [.ref 1, .d (.int n), .d (.int m), .d (.int f)] (pst p ++ R) = .ok (.d (web n ls)) (pst p' ++ R) := by
  obtain ⟨ns, p1, hns, e1⟩ := turned_i (wn := wn) t (d + 1) hR p (n := n) (by omega)
  obtain ⟨nl, nlt, ninj, nsur⟩ := perm_getD hns
  have kd2 : ∀ w : Wy, cutP [.int (w.1 : Int), .int (w.2.1 : Int), .int (w.2.2 : Int)] none (some 2) = [.int (w.1 : Int), .int (w.2.1 : Int)] := fun w => rfl
  have hput : ∀ (q : Pool) (ws : List Wy) (w : Wy), ws.length < LIM → putIx (pst q ++ (R ++ [.dT (kvOf ws)])) (.ref (R.length + 2)) (.d (.tuple [.int (w.1 : Int), .int (w.2.1 : Int)])) (.d (wy w)) = some (pst q ++ (R ++ [.dT (kvOf (putW ws w))])) := fun q ws w hl => by
    have hl2 : (kvOf ws).length < LIM := by rw [kv_len]; exact hl
    have i2 : intsOf [.int (w.1 : Int), .int (w.2.1 : Int)] = some [(w.1 : Int), (w.2.1 : Int)] := rfl
    simp only [putIx, putTup, atD, if_pos hl2, i2, Option.map_some, put_kv, setD]
  rw [callF_eq t.drawn rfl, C.t__law_web_drawn]
  simp only [startL, List.map_cons, List.map_nil, List.length_cons, List.length_nil, List.replicate, List.replicate_succ, List.replicate_zero, List.cons_append, List.nil_append, List.append_nil, Nat.reduceAdd, Nat.reduceSub, Nat.zero_add, ↓evalE_popAt, ↓evalI_range1, ↓evalI_range2, ↓evalE_mul, ↓evalE_mod, ↓evalE_fdiv, ↓evalE_pow, evalSs, evalS, evalE, evalEs, evalT, evalI, evalO, evalC, SRes.seq_next, SRes.seq_ret, SRes.seq_err, SRes.seq_brk, SRes.seq_cnt, SRes.seq_stuck, Res.bind_ok, Res.bind_err, Res.bind_stuck, Res.st_ok, Res.st_err, Res.st_stuck, ofO_some, ofO_none, asP_d, getV_z, getV_s, Option.bind_some, Option.map_some, Option.bind_none, Option.map_none, biP, on1, ints2, unD, mkL_f, mkL_t, plain_d, truthP, List.set_cons_zero, List.set_cons_succ, ofOS, unpackV, setAll, setAllD, bindT, ite_tru, ite_fls, if_true, if_false, reduceIte, Bool.false_eq_true, Bool.not_true, Bool.not_false, retv_ok, isi_int, isi_bool, isi_tup, bLen, seqV, seqP_t, seqP_l, lstP, intsV, eq_i, ne_i, le_i, lt_i, gt_i, ge_i, add_i, sub_i, itemsOf, enumOf, Int.cast_ofNat_Int, Int.natCast_one, List.length_map, Int.reduceEq, Int.reduceLT, Int.reduceLE, e1, pst_len, rg2_i (m := 1) (n := n) (by omega) (by omega)]
  rw [show ((1 : Int)) = ((1 : Nat) : Int) from rfl, rg2_i (m := 1) (n := n) (by omega) (by omega), show pst p1 ++ R ++ [OB.dT []] = pst p1 ++ (R ++ [.dT (kvOf [])]) by simp [kvOf]]
  simp only [↓evalE_popAt, ↓evalI_range1, ↓evalI_range2, ↓evalE_mul, ↓evalE_mod, ↓evalE_fdiv, ↓evalE_pow, evalSs, evalS, evalE, evalEs, evalT, evalI, evalO, evalC, SRes.seq_next, SRes.seq_ret, SRes.seq_err, SRes.seq_brk, SRes.seq_cnt, SRes.seq_stuck, Res.bind_ok, Res.bind_err, Res.bind_stuck, Res.st_ok, Res.st_err, Res.st_stuck, ofO_some, ofO_none, asP_d, getV_z, getV_s, Option.bind_some, Option.map_some, Option.bind_none, Option.map_none, biP, on1, ints2, unD, mkL_f, mkL_t, plain_d, truthP, List.set_cons_zero, List.set_cons_succ, ofOS, unpackV, setAll, setAllD, bindT, ite_tru, ite_fls, if_true, if_false, reduceIte, Bool.false_eq_true, Bool.not_true, Bool.not_false, retv_ok]
  refine for_then (P := fun r => ∃ ls p', WebOk n ls ∧ (∀ w, w ∈ ls → w.2.2 ≤ m) ∧ ls.length ≤ n + f ∧ outF false (R.length + 2) r = .ok (.d (EvP.web n ls)) (pst p' ++ R))
    (fun xs l S1 => ∃ (a : Nat) (q : Pool) (ws : List Wy) (j4 j5 j8 j9 j10 : Option DV), xs = rangeP (a : Int) (n : Int) ∧ 1 ≤ a ∧ a ≤ n ∧ l = [some (.ref 1), some (.d (.int n)), some (.d (.int m)), some (.d (.int f)), j4, j5, some (.d (.list (nats ns))), some (.ref (R.length + 2)), j8, j9, j10] ∧ S1 = pst q ++ (R ++ [.dT (kvOf ws)]) ∧ DOk n m ws ∧ ws.length + 1 ≤ a ∧ ∀ i, i < a → Conn ws (ns.getD 0 0) (ns.getD i 0))
    ⟨1, p1, [], none, none, none, none, none, rfl, by omega, h1, rfl, rfl, ⟨by simp, by simp⟩, by simp, fun i hi => by rw [show i = 0 by omega]; exact .refl _⟩ ?_ ?_
  · rintro x r l S1 ⟨a, q, ws, j4, j5, j8, j9, j10, ex, ha1, han, el, eS, hd, hwl, hc⟩
    by_cases an : a < n
    · rw [rangeP_cons an] at ex
      obtain ⟨rfl, rfl⟩ := List.cons.inj ex
      have hR2 : NB (R ++ [.dT (kvOf ws)]) := hR.add (by intro _ h; cases h)
      obtain ⟨v, q1, hv, ev⟩ := draw_i (wn := wn) t (d + 2) hR2 q (n := a) (by omega) (by omega)
      obtain ⟨y, q2, hy1, hy2, ey⟩ := days_i (wn := wn) t d hR2 q1 (m := m) hm1 (by omega)
      have g1 := ix_nats (L := ns) (i := a) (by omega)
      have g2 := ix_nats (L := ns) (i := v) (by omega)
      have ne : ns.getD a 0 ≠ ns.getD v 0 := fun e => by have := ninj a v an (by omega) e; omega
      have w1 := way_i (wn := wn) t (cl_pst hR2 q2) (d + 2) (ns.getD a 0) (ns.getD v 0) y
      have pu := hput q2 ws (min (ns.getD a 0) (ns.getD v 0), max (ns.getD a 0) (ns.getD v 0), y) (by unfold LIM; omega)
      have kk := kd2 (min (ns.getD a 0) (ns.getD v 0), max (ns.getD a 0) (ns.getD v 0), y)
      rw [el, eS]
      simp only [forF, startL, List.map_cons, List.map_nil, List.length_cons, List.length_nil, List.replicate, List.replicate_succ, List.replicate_zero, List.cons_append, List.nil_append, List.append_nil, Nat.reduceAdd, Nat.reduceSub, Nat.zero_add, ↓evalE_popAt, ↓evalI_range1, ↓evalI_range2, ↓evalE_mul, ↓evalE_mod, ↓evalE_fdiv, ↓evalE_pow, evalSs, evalS, evalE, evalEs, evalT, evalI, evalO, evalC, SRes.seq_next, SRes.seq_ret, SRes.seq_err, SRes.seq_brk, SRes.seq_cnt, SRes.seq_stuck, Res.bind_ok, Res.bind_err, Res.bind_stuck, Res.st_ok, Res.st_err, Res.st_stuck, ofO_some, ofO_none, asP_d, getV_z, getV_s, Option.bind_some, Option.map_some, Option.bind_none, Option.map_none, biP, on1, ints2, unD, mkL_f, mkL_t, plain_d, truthP, List.set_cons_zero, List.set_cons_succ, ofOS, unpackV, setAll, setAllD, bindT, ite_tru, ite_fls, if_true, if_false, reduceIte, Bool.false_eq_true, Bool.not_true, Bool.not_false, retv_ok, isi_int, isi_bool, isi_tup, bLen, seqV, seqP_t, seqP_l, lstP, intsV, eq_i, ne_i, le_i, lt_i, gt_i, ge_i, add_i, sub_i, itemsOf, enumOf, Int.cast_ofNat_Int, Int.natCast_one, List.length_map, Int.reduceEq, Int.reduceLT, Int.reduceLE, g1, ev, g2, ey, w1]
      simp only [wy] at pu
      simp only [wy, ↓evalE_popAt, ↓evalI_range1, ↓evalI_range2, ↓evalE_mul, ↓evalE_mod, ↓evalE_fdiv, ↓evalE_pow, evalSs, evalS, evalE, evalEs, evalT, evalI, evalO, evalC, SRes.seq_next, SRes.seq_ret, SRes.seq_err, SRes.seq_brk, SRes.seq_cnt, SRes.seq_stuck, Res.bind_ok, Res.bind_err, Res.bind_stuck, Res.st_ok, Res.st_err, Res.st_stuck, ofO_some, ofO_none, asP_d, getV_z, getV_s, Option.bind_some, Option.map_some, Option.bind_none, Option.map_none, biP, on1, ints2, unD, mkL_f, mkL_t, plain_d, truthP, List.set_cons_zero, List.set_cons_succ, ofOS, unpackV, setAll, setAllD, bindT, ite_tru, ite_fls, if_true, if_false, reduceIte, Bool.false_eq_true, Bool.not_true, Bool.not_false, retv_ok, kk, pu]
      have hw : min (ns.getD a 0) (ns.getD v 0) < max (ns.getD a 0) (ns.getD v 0) := wy_of (c := 0) ne
      have l1 := nlt a an
      have l2 := nlt v (by omega)
      refine ⟨_, _, rfl, rfl, a + 1, q2, putW ws _, _, _, _, _, _, rfl, by omega, by omega, rfl, rfl, hd.put ⟨hw, by dsimp only; omega, hy1, hy2⟩, ?_, fun i hi => ?_⟩
      · have := putW_len ws (min (ns.getD a 0) (ns.getD v 0), max (ns.getD a 0) (ns.getD v 0), y); omega
      · by_cases c : i < a
        · exact putW_conn (hc i c)
        · rw [show i = a by omega]
          exact (putW_conn (hc v hv)).trans (conn_mm (putW_self _ _)).symm
    · rw [rangeP_nil (by omega)] at ex; cases ex
  · rintro l S1 ⟨a, q, ws, j4, j5, j8, j9, j10, ex, ha1, han, el, eS, hd, hwl, hc⟩
    have an : a = n := by
      by_cases c : a < n
      · rw [rangeP_cons c] at ex; cases ex
      · omega
    subst an
    have hR2 : NB (R ++ [.dT (kvOf ws)]) := hR.add (by intro _ h; cases h)
    obtain ⟨u, q1, hu, eu⟩ := draw_i (wn := wn) t (d + 2) hR2 q (n := f + 1) (by omega) (by omega)
    rw [show ((f + 1 : Nat) : Int) = (f : Int) + 1 by omega] at eu
    rw [el, eS]
    simp only [startL, List.map_cons, List.map_nil, List.length_cons, List.length_nil, List.replicate, List.replicate_succ, List.replicate_zero, List.cons_append, List.nil_append, List.append_nil, Nat.reduceAdd, Nat.reduceSub, Nat.zero_add, ↓evalE_popAt, ↓evalI_range1, ↓evalI_range2, ↓evalE_mul, ↓evalE_mod, ↓evalE_fdiv, ↓evalE_pow, evalSs, evalS, evalE, evalEs, evalT, evalI, evalO, evalC, SRes.seq_next, SRes.seq_ret, SRes.seq_err, SRes.seq_brk, SRes.seq_cnt, SRes.seq_stuck, Res.bind_ok, Res.bind_err, Res.bind_stuck, Res.st_ok, Res.st_err, Res.st_stuck, ofO_some, ofO_none, asP_d, getV_z, getV_s, Option.bind_some, Option.map_some, Option.bind_none, Option.map_none, biP, on1, ints2, unD, mkL_f, mkL_t, plain_d, truthP, List.set_cons_zero, List.set_cons_succ, ofOS, unpackV, setAll, setAllD, bindT, ite_tru, ite_fls, if_true, if_false, reduceIte, Bool.false_eq_true, Bool.not_true, Bool.not_false, retv_ok, isi_int, isi_bool, isi_tup, bLen, seqV, seqP_t, seqP_l, lstP, intsV, eq_i, ne_i, le_i, lt_i, gt_i, ge_i, add_i, sub_i, itemsOf, enumOf, Int.cast_ofNat_Int, Int.natCast_one, List.length_map, Int.reduceEq, Int.reduceLT, Int.reduceLE, eu, rg1_i (n := u) (by omega)]
    refine for_then (P := fun r => ∃ ls p', WebOk a ls ∧ (∀ w, w ∈ ls → w.2.2 ≤ m) ∧ ls.length ≤ a + f ∧ outF false (R.length + 2) r = .ok (.d (EvP.web a ls)) (pst p' ++ R))
      (fun xs l S1 => ∃ (q : Pool) (ws : List Wy) (j4 j5 j8 j9 j10 : Option DV), l = [some (.ref 1), some (.d (.int a)), some (.d (.int m)), some (.d (.int f)), j4, j5, some (.d (.list (nats ns))), some (.ref (R.length + 2)), j8, j9, j10] ∧ S1 = pst q ++ (R ++ [.dT (kvOf ws)]) ∧ DOk a m ws ∧ ws.length + xs.length ≤ a + f ∧ ∀ i, i < a → Conn ws (ns.getD 0 0) (ns.getD i 0))
      ⟨q1, ws, j4, j5, j8, j9, j10, rfl, rfl, hd, by have := rangeP_len 0 u; simp only [Int.natCast_zero] at this; rw [this]; omega, hc⟩ ?_ ?_
    · rintro x r l S1 ⟨q, ws, j4, j5, j8, j9, j10, el, eS, hd, hwl, hc⟩
      have hR2 : NB (R ++ [.dT (kvOf ws)]) := hR.add (by intro _ h; cases h)
      obtain ⟨u1, q1, hu1, e1⟩ := draw_i (wn := wn) t (d + 2) hR2 q (n := a) (by omega) (by omega)
      obtain ⟨u2, q2, hu2, e2⟩ := draw_i (wn := wn) t (d + 2) hR2 q1 (n := a) (by omega) (by omega)
      obtain ⟨y, q3, hy1, hy2, ey⟩ := days_i (wn := wn) t d hR2 q2 (m := m) hm1 (by omega)
      have w1 := way_i (wn := wn) t (cl_pst hR2 q3) (d + 2) u1 u2 y
      simp only [List.length_cons] at hwl
      have pu := hput q3 ws (min u1 u2, max u1 u2, y) (by unfold LIM; omega)
      have kk := kd2 (min u1 u2, max u1 u2, y)
      have lk := look_kv ws (min u1 u2, max u1 u2, y)
      have da : dictAt (pst q3 ++ (R ++ [.dT (kvOf ws)])) (.ref (R.length + 2)) = some (kvOf ws) := by simp [dictAt, atD]
      have kt : keyT (.tuple [.int (min u1 u2 : Nat), .int (max u1 u2 : Nat)]) = some [((min u1 u2 : Nat) : Int), ((max u1 u2 : Nat) : Int)] := rfl
      rw [el, eS]
      simp only [forF, startL, List.map_cons, List.map_nil, List.length_cons, List.length_nil, List.replicate, List.replicate_succ, List.replicate_zero, List.cons_append, List.nil_append, List.append_nil, Nat.reduceAdd, Nat.reduceSub, Nat.zero_add, ↓evalE_popAt, ↓evalI_range1, ↓evalI_range2, ↓evalE_mul, ↓evalE_mod, ↓evalE_fdiv, ↓evalE_pow, evalSs, evalS, evalE, evalEs, evalT, evalI, evalO, evalC, SRes.seq_next, SRes.seq_ret, SRes.seq_err, SRes.seq_brk, SRes.seq_cnt, SRes.seq_stuck, Res.bind_ok, Res.bind_err, Res.bind_stuck, Res.st_ok, Res.st_err, Res.st_stuck, ofO_some, ofO_none, asP_d, getV_z, getV_s, Option.bind_some, Option.map_some, Option.bind_none, Option.map_none, biP, on1, ints2, unD, mkL_f, mkL_t, plain_d, truthP, List.set_cons_zero, List.set_cons_succ, ofOS, unpackV, setAll, setAllD, bindT, ite_tru, ite_fls, if_true, if_false, reduceIte, Bool.false_eq_true, Bool.not_true, Bool.not_false, retv_ok, isi_int, isi_bool, isi_tup, bLen, seqV, seqP_t, seqP_l, lstP, intsV, eq_i, ne_i, le_i, lt_i, gt_i, ge_i, add_i, sub_i, itemsOf, enumOf, Int.cast_ofNat_Int, Int.natCast_one, List.length_map, Int.reduceEq, Int.reduceLT, Int.reduceLE, e1, e2, ey, w1]
      simp only [wy] at pu
      by_cases c : u1 = u2
      · subst c
        simp only [wy, ↓evalE_popAt, ↓evalI_range1, ↓evalI_range2, ↓evalE_mul, ↓evalE_mod, ↓evalE_fdiv, ↓evalE_pow, evalSs, evalS, evalE, evalEs, evalT, evalI, evalO, evalC, SRes.seq_next, SRes.seq_ret, SRes.seq_err, SRes.seq_brk, SRes.seq_cnt, SRes.seq_stuck, Res.bind_ok, Res.bind_err, Res.bind_stuck, Res.st_ok, Res.st_err, Res.st_stuck, ofO_some, ofO_none, asP_d, getV_z, getV_s, Option.bind_some, Option.map_some, Option.bind_none, Option.map_none, biP, on1, ints2, unD, mkL_f, mkL_t, plain_d, truthP, List.set_cons_zero, List.set_cons_succ, ofOS, unpackV, setAll, setAllD, bindT, ite_tru, ite_fls, if_true, if_false, reduceIte, Bool.false_eq_true, Bool.not_true, Bool.not_false, retv_ok, decide_true]
        exact ⟨_, _, rfl, rfl, q3, ws, _, _, _, _, _, rfl, rfl, hd, by omega, hc⟩
      · have c' : ¬ (u1 : Int) = (u2 : Int) := by omega
        simp only [wy, ↓evalE_popAt, ↓evalI_range1, ↓evalI_range2, ↓evalE_mul, ↓evalE_mod, ↓evalE_fdiv, ↓evalE_pow, evalSs, evalS, evalE, evalEs, evalT, evalI, evalO, evalC, SRes.seq_next, SRes.seq_ret, SRes.seq_err, SRes.seq_brk, SRes.seq_cnt, SRes.seq_stuck, Res.bind_ok, Res.bind_err, Res.bind_stuck, Res.st_ok, Res.st_err, Res.st_stuck, ofO_some, ofO_none, asP_d, getV_z, getV_s, Option.bind_some, Option.map_some, Option.bind_none, Option.map_none, biP, on1, ints2, unD, mkL_f, mkL_t, plain_d, truthP, List.set_cons_zero, List.set_cons_succ, ofOS, unpackV, setAll, setAllD, bindT, ite_tru, ite_fls, if_true, if_false, reduceIte, Bool.false_eq_true, Bool.not_true, Bool.not_false, retv_ok, c', decide_false, kk, da, kt, lk]
        cases any : ws.any fun x => decide (same2 x (min u1 u2, max u1 u2, y)) with
        | true =>
          simp only [↓evalE_popAt, ↓evalI_range1, ↓evalI_range2, ↓evalE_mul, ↓evalE_mod, ↓evalE_fdiv, ↓evalE_pow, evalSs, evalS, evalE, evalEs, evalT, evalI, evalO, evalC, SRes.seq_next, SRes.seq_ret, SRes.seq_err, SRes.seq_brk, SRes.seq_cnt, SRes.seq_stuck, Res.bind_ok, Res.bind_err, Res.bind_stuck, Res.st_ok, Res.st_err, Res.st_stuck, ofO_some, ofO_none, asP_d, getV_z, getV_s, Option.bind_some, Option.map_some, Option.bind_none, Option.map_none, biP, on1, ints2, unD, mkL_f, mkL_t, plain_d, truthP, List.set_cons_zero, List.set_cons_succ, ofOS, unpackV, setAll, setAllD, bindT, ite_tru, ite_fls, if_true, if_false, reduceIte, Bool.false_eq_true, Bool.not_true, Bool.not_false, retv_ok]
          exact ⟨_, _, rfl, rfl, q3, ws, _, _, _, _, _, rfl, rfl, hd, by omega, hc⟩
        | false =>
          simp only [↓evalE_popAt, ↓evalI_range1, ↓evalI_range2, ↓evalE_mul, ↓evalE_mod, ↓evalE_fdiv, ↓evalE_pow, evalSs, evalS, evalE, evalEs, evalT, evalI, evalO, evalC, SRes.seq_next, SRes.seq_ret, SRes.seq_err, SRes.seq_brk, SRes.seq_cnt, SRes.seq_stuck, Res.bind_ok, Res.bind_err, Res.bind_stuck, Res.st_ok, Res.st_err, Res.st_stuck, ofO_some, ofO_none, asP_d, getV_z, getV_s, Option.bind_some, Option.map_some, Option.bind_none, Option.map_none, biP, on1, ints2, unD, mkL_f, mkL_t, plain_d, truthP, List.set_cons_zero, List.set_cons_succ, ofOS, unpackV, setAll, setAllD, bindT, ite_tru, ite_fls, if_true, if_false, reduceIte, Bool.false_eq_true, Bool.not_true, Bool.not_false, retv_ok, kk, pu]
          have := putW_len ws (min u1 u2, max u1 u2, y)
          exact ⟨_, _, rfl, rfl, q3, putW ws _, _, _, _, _, _, rfl, rfl, hd.put ⟨wy_of (c := 0) c, by dsimp only; omega, hy1, hy2⟩, by omega, fun i hi => putW_conn (hc i hi)⟩
    · rintro l S1 ⟨q, ws, j4, j5, j8, j9, j10, el, eS, hd, hwl, hc⟩
      simp only [List.length_nil] at hwl
      have mv : mVals false (pst q ++ (R ++ [.dT (kvOf ws)])) (R.length + 2) = .ok (.d (.list (wys (sortU ws)))) (pst q ++ (R ++ [.dT (kvOf ws)])) := by
        simp only [mVals, atD, kv_vals, sortedP_wys (l := ws) (by unfold LIM; omega), bNew, mkL_f]
      rw [el, eS]
      refine ⟨sortU ws, q, hd.web h1 h40 hm (whole_of hns (by omega) hc), fun w mw => (hd.uv w (sortU_perm.mem_iff.mp mw)).2.2.2, by rw [sortU_perm.length_eq]; omega, ?_⟩
      simp only [startL, List.map_cons, List.map_nil, List.length_cons, List.length_nil, List.replicate, List.replicate_succ, List.replicate_zero, List.cons_append, List.nil_append, List.append_nil, Nat.reduceAdd, Nat.reduceSub, Nat.zero_add, ↓evalE_popAt, ↓evalI_range1, ↓evalI_range2, ↓evalE_mul, ↓evalE_mod, ↓evalE_fdiv, ↓evalE_pow, evalSs, evalS, evalE, evalEs, evalT, evalI, evalO, evalC, SRes.seq_next, SRes.seq_ret, SRes.seq_err, SRes.seq_brk, SRes.seq_cnt, SRes.seq_stuck, Res.bind_ok, Res.bind_err, Res.bind_stuck, Res.st_ok, Res.st_err, Res.st_stuck, ofO_some, ofO_none, asP_d, getV_z, getV_s, Option.bind_some, Option.map_some, Option.bind_none, Option.map_none, biP, on1, ints2, unD, mkL_f, mkL_t, plain_d, truthP, List.set_cons_zero, List.set_cons_succ, ofOS, unpackV, setAll, setAllD, bindT, ite_tru, ite_fls, if_true, if_false, reduceIte, Bool.false_eq_true, Bool.not_true, Bool.not_false, retv_ok, isi_int, isi_bool, isi_tup, bLen, seqV, seqP_t, seqP_l, lstP, intsV, eq_i, ne_i, le_i, lt_i, gt_i, ge_i, add_i, sub_i, itemsOf, enumOf, Int.cast_ofNat_Int, Int.natCast_one, List.length_map, Int.reduceEq, Int.reduceLT, Int.reduceLE, mv]
      have := retv_own (S := pst q ++ R) (R := [.dT (kvOf ws)]) (cl_pst hR q) (EvP.web a (sortU ws))
      rw [pst_len, List.append_assoc] at this
      exact this
end EvP
end
section
set_option maxRecDepth 100000
set_option maxHeartbeats 1000000
/-! EvP10: webs at their bounds. -/
namespace EvP
open Ev PySem L2 MW
theorem rangeP_nats (a n : Nat) : rangeP (a : Int) (n : Int) = nats (List.range' a (n - a)) := by
  unfold rangeP nats
  rw [List.range'_eq_map_range, List.map_map]
  rw [show ((n : Int) - (a : Int)).toNat = n - a by omega]
  congr 1
/-- with a condition -/
theorem comp_fm {w : Items} {f : PyData → Sto → Res (Option PyData)} {g : PyData → Option PyData} {S : Sto} (hw : w.src = none) : ∀ {xs acc : List PyData}, (∀ x, x ∈ xs → f x S = .ok (g x) S) → compLoop w f xs acc S = .ok (acc ++ xs.filterMap g) S
  | [], acc, _ => by simp [compLoop]
  | x :: r, acc, h => by
    unfold compLoop
    rw [h x (List.mem_cons_self ..)]
    have st : still w S = true := by unfold still; rw [hw]
    simp only [Res.bind_ok, if_pos st]
    rw [comp_fm hw fun y m => h y (List.mem_cons_of_mem _ m)]
    cases q : g x <;> simp [pushO, q]
/-- ways from one place to others, days drawn -/
theorem comp_wys {w : Items} {f : PyData → Sto → Res (Option PyData)} {J : Sto → Prop} {one : Nat} (hw : w.src = none) : ∀ {os : List Nat} {acc : List PyData} {S : Sto},
    (∀ (o : Nat) (S : Sto), J S → ∃ d S', f (.int (o : Nat)) S = .ok (some (wy (one, o, d))) S' ∧ J S' ∧ 1 ≤ d ∧ d ≤ 200) → J S →
    ∃ row S', compLoop w f (nats os) acc S = .ok (acc ++ wys row) S' ∧ J S' ∧ row.map (·.2.1) = os ∧ ∀ w, w ∈ row → w.1 = one ∧ 1 ≤ w.2.2 ∧ w.2.2 ≤ 200
  | [], acc, S, _, hJ => ⟨[], S, by simp [compLoop, nats, wys], hJ, rfl, by simp⟩
  | o :: os, acc, S, h, hJ => by
    obtain ⟨d, S1, e, hJ1, hd1, hd2⟩ := h o S hJ
    obtain ⟨row, S2, e2, hJ2, hr, hm⟩ := comp_wys (acc := acc ++ [wy (one, o, d)]) (os := os) hw h hJ1
    refine ⟨(one, o, d) :: row, S2, ?_, hJ2, by simp [hr], fun w m => ?_⟩
    · show compLoop w f (.int (o : Nat) :: nats os) acc S = _
      unfold compLoop
      rw [e]
      have st : still w S1 = true := by unfold still; rw [hw]
      simp only [Res.bind_ok, if_pos st, pushO, e2]
      simp [wys]
    · rcases List.mem_cons.mp m with q | q
      · subst q; exact ⟨rfl, hd1, hd2⟩
      · exact hm w q
theorem fmod_200 (a b : Nat) : ((a : Int) * (b : Int)).fmod 200 = ((a * b % 200 : Nat) : Int) := by
  rw [Int.fmod_eq_emod_of_nonneg _ (by decide)]
  simp
def day (f a : Nat) : Nat := 1 + a * f % 200
theorem day_i (f a : Nat) : (1 : Int) + ((a * f % 200 : Nat) : Int) = ((day f a : Nat) : Int) := by unfold day; omega
theorem day_ok (f a : Nat) : 1 ≤ day f a ∧ day f a ≤ 200 := by unfold day; omega
/-! ### stars -/
def star (f mid n : Nat) : List Wy := ((List.range n).filter fun a => decide (a ≠ mid)).map fun a => (min mid a, max mid a, day f a)
theorem star_ok {f mid n : Nat} (h : mid < n) : DOk n 200 (star f mid n) := by
  refine ⟨fun w m => ?_, ?_⟩
  · obtain ⟨a, ha, e⟩ := List.mem_map.mp m
    rw [List.mem_filter] at ha
    have h1 : a < n := by simpa using ha.1
    have h2 : a ≠ mid := by simpa using ha.2
    have := day_ok f a
    subst e
    dsimp only
    omega
  · refine List.pairwise_map.mpr ((List.Pairwise.filter _ List.nodup_range).imp fun {a b} q => ?_)
    dsimp only
    have q : a ≠ b := q
    omega
theorem star_whole {f mid n : Nat} (h : mid < n) : Whole n (star f mid n) := by
  have c : ∀ a, a < n → Conn (star f mid n) mid a := fun a ha => by
    by_cases e : a = mid
    · subst e; exact .refl _
    · refine conn_mm (c := day f a) (List.mem_map.mpr ⟨a, ?_, rfl⟩)
      rw [List.mem_filter]
      exact ⟨by simpa using ha, by simpa using e⟩
  exact fun i hi => (c 0 (by omega)).symm.trans (c i hi)
/-! ### rows and rings -/
def rowL (g : Nat → Nat) (ns : List Nat) (n : Nat) : List Wy := (List.range' 1 (n - 1)).map fun a => (min (ns.getD a 0) (ns.getD (a - 1) 0), max (ns.getD a 0) (ns.getD (a - 1) 0), g a)
theorem rowL_ok {g : Nat → Nat} {ns : List Nat} {n : Nat} (h : ns.Perm (List.range n)) (hg : ∀ a, 1 ≤ g a ∧ g a ≤ 200) : DOk n 200 (rowL g ns n) := by
  obtain ⟨nl, nlt, ninj, _⟩ := perm_getD h
  have mem : ∀ a, a ∈ List.range' 1 (n - 1) → 1 ≤ a ∧ a < n := fun a m => by
    rw [List.mem_range'] at m
    obtain ⟨i, hi, e⟩ := m
    omega
  refine ⟨fun w m => ?_, ?_⟩
  · obtain ⟨a, ha, e⟩ := List.mem_map.mp m
    obtain ⟨a1, an⟩ := mem a ha
    have h1 := nlt a an
    have h2 := nlt (a - 1) (by omega)
    have h3 : ns.getD a 0 ≠ ns.getD (a - 1) 0 := fun q => by have := ninj _ _ an (by omega) q; omega
    have := hg a
    subst e
    dsimp only
    omega
  · refine List.pairwise_map.mpr (List.Pairwise.imp_of_mem ?_ (List.pairwise_lt_range' (s := 1) (n := n - 1)))
    intro a b ma mb q
    obtain ⟨a1, an⟩ := mem a ma
    obtain ⟨b1, bn⟩ := mem b mb
    have i1 := ninj a b an bn
    have i2 := ninj a (b - 1) an (by omega)
    have i3 := ninj (a - 1) b (by omega) bn
    dsimp only
    intro ⟨x, y⟩
    have : (ns.getD a 0 = ns.getD b 0) ∨ (ns.getD a 0 = ns.getD (b - 1) 0 ∧ ns.getD (a - 1) 0 = ns.getD b 0) := by omega
    rcases this with e | ⟨e1, e2⟩
    · have := i1 e; omega
    · have := i2 e1; have := i3 e2; omega
theorem rowL_conn {g : Nat → Nat} {ns : List Nat} {n : Nat} : ∀ i, i < n → Conn (rowL g ns n) (ns.getD 0 0) (ns.getD i 0)
  | 0, _ => .refl _
  | i + 1, h => by
    refine (rowL_conn i (by omega)).trans (Conn.symm (conn_mm (c := g (i + 1)) (List.mem_map.mpr ⟨i + 1, ?_, rfl⟩)))
    rw [List.mem_range']
    exact ⟨i, by omega, by omega⟩
theorem ring_ok {g : Nat → Nat} {ns : List Nat} {n c : Nat} (hn : 3 ≤ n) (h : ns.Perm (List.range n)) (hg : ∀ a, 1 ≤ g a ∧ g a ≤ 200) (hc : 1 ≤ c ∧ c ≤ 200) : DOk n 200 (rowL g ns n ++ [(min (ns.getD 0 0) (ns.getD (n - 1) 0), max (ns.getD 0 0) (ns.getD (n - 1) 0), c)]) := by
  obtain ⟨nl, nlt, ninj, _⟩ := perm_getD h
  have r := rowL_ok (g := g) h hg
  refine ⟨fun w m => ?_, List.pairwise_append.mpr ⟨r.nd, by simp, fun w m b mb => ?_⟩⟩
  · rcases List.mem_append.mp m with a | a
    · exact r.uv w a
    · rw [List.mem_singleton.mp a]
      have h1 := nlt 0 (by omega)
      have h2 := nlt (n - 1) (by omega)
      have h3 : ns.getD 0 0 ≠ ns.getD (n - 1) 0 := fun q => by have := ninj _ _ (by omega) (by omega) q; omega
      dsimp only
      omega
  · rw [List.mem_singleton.mp mb]
    obtain ⟨a, ha, e⟩ := List.mem_map.mp m
    rw [List.mem_range'] at ha
    obtain ⟨i, hi, ei⟩ := ha
    have i1 := ninj a 0 (by omega) (by omega)
    have i2 := ninj a (n - 1) (by omega) (by omega)
    have i3 := ninj (a - 1) 0 (by omega) (by omega)
    subst e
    dsimp only
    intro ⟨x, y⟩
    have : (ns.getD a 0 = ns.getD 0 0) ∨ (ns.getD a 0 = ns.getD (n - 1) 0 ∧ ns.getD (a - 1) 0 = ns.getD 0 0) := by omega
    rcases this with e | ⟨e1, e2⟩
    · have := i1 e; omega
    · have := i2 e1; have := i3 e2; omega
/-! ### all ways -/
structure AllOk (n k : Nat) (ws : List Wy) : Prop where
  uv : ∀ w, w ∈ ws → w.1 < w.2.1 ∧ w.2.1 < n ∧ 1 ≤ w.2.2 ∧ w.2.2 ≤ 200 ∧ w.1 < k
  ord : ws.Pairwise fun a b => a.1 < b.1 ∨ (a.1 = b.1 ∧ a.2.1 < b.2.1)
  has : ∀ u v, u < k → u < v → v < n → ∃ d, (u, v, d) ∈ ws
  len : ws.length ≤ k * n
theorem AllOk.more {n k : Nat} {ws row : List Wy} (h : AllOk n k ws) (hr : row.map (·.2.1) = List.range' (k + 1) (n - (k + 1))) (hm : ∀ w, w ∈ row → w.1 = k ∧ 1 ≤ w.2.2 ∧ w.2.2 ≤ 200) : AllOk n (k + 1) (ws ++ row) := by
  have hv : ∀ w, w ∈ row → k < w.2.1 ∧ w.2.1 < n := fun w m => by
    have : w.2.1 ∈ List.range' (k + 1) (n - (k + 1)) := hr ▸ List.mem_map.mpr ⟨w, m, rfl⟩
    rw [List.mem_range'] at this
    obtain ⟨i, hi, e⟩ := this
    omega
  refine ⟨fun w m => ?_, List.pairwise_append.mpr ⟨h.ord, ?_, fun a ma b mb => ?_⟩, fun u v hu huv hvn => ?_, ?_⟩
  · rcases List.mem_append.mp m with a | a
    · have := h.uv w a; omega
    · have := hv w a; have := hm w a; omega
  · have p : (row.map (·.2.1)).Pairwise (· < ·) := by rw [hr]; exact List.pairwise_lt_range'
    refine List.Pairwise.imp_of_mem ?_ (List.pairwise_map.mp p)
    intro a b ma mb q
    have := hm a ma; have := hm b mb
    omega
  · have := h.uv a ma; have := hm b mb; omega
  · by_cases c : u < k
    · obtain ⟨d, m⟩ := h.has u v c huv hvn
      exact ⟨d, List.mem_append_left _ m⟩
    · have e : u = k := by omega
      subst e
      have : v ∈ row.map (·.2.1) := by rw [hr, List.mem_range']; exact ⟨v - (u + 1), by omega, by omega⟩
      obtain ⟨w, hw, ew⟩ := List.mem_map.mp this
      refine ⟨w.2.2, List.mem_append_right _ ?_⟩
      have e2 : (u, v, w.2.2) = w := wy_ext (hm w hw).1.symm ew.symm rfl
      rw [e2]; exact hw
  · have := h.len
    have l : row.length = n - (k + 1) := by have := congrArg List.length hr; simpa using this
    rw [List.length_append, l, Nat.add_mul]
    omega
theorem AllOk.web {n : Nat} {ws : List Wy} (h : AllOk n n ws) (h1 : 1 ≤ n) (h40 : n ≤ 40) : WebOk n ws :=
  ⟨h1, h40, fun w m => by have := h.uv w m; omega, h.ord, fun i hi => by
    by_cases c : i = 0
    · subst c; exact .refl _
    · obtain ⟨d, m⟩ := h.has 0 i (by omega) (by omega) hi
      exact .of m⟩
end EvP
end
section
set_option maxRecDepth 100000
set_option maxHeartbeats 2000000
/-! EvP11: webs at their bounds, as a law draws them. -/
namespace EvP
open Ev PySem L2 MW
structure TR (T : String → Option Fn) : Prop where
  p : TP T
  rims : T "_law_web_rims" = some C.t__law_web_rims
  any : T "_law_web_any" = some C.t__law_web_any
theorem ix_0 {L : List Nat} (h : 0 < L.length) : ixP (.list (nats L)) (.int 0) = some (.int (L.getD 0 0 : Nat)) := ix_nats (i := 0) h
variable {T : String → Option Fn} {wn : Nat} (t : TR T)
include t
/-- the statements from the fourth on -/
theorem rims_tail (d : Nat) {R : Sto} (hR : NB R) (q : Pool) {way far n : Nat} (hw : 2 ≤ way) (hw8 : way < 8) (hf1 : 1 ≤ far) (hf : far ≤ 200) (hn3 : 3 ≤ n) (hn : n ≤ 40) (j2 j3 j6 j7 j8 j9 j10 : Option DV) :
    ∃ n' ls p', WebOk n' ls ∧ ls.length ≤ 2000 ∧ outF false (R.length + 2) (evalSs (callF T wn (d + 5)) wn (C.t__law_web_rims.body.drop 5) [some (.ref 1), some (.d (.int n)), j2, j3, some (.d (.int way)), some (.d (.int far)), j6, j7, j8, j9, j10] (pst q ++ R)) = .ok (.d (web n' ls)) (pst p' ++ R) := by
  have kf := mul_r (b := (far : Int)) (Sm.of (by omega) (by omega))
  have m200 := mod_i (b := 200) (by decide)
  have lim : ∀ k, k ≤ 5000 → k ≤ LIM := fun k h => by unfold LIM; omega
  simp only [C.t__law_web_rims, List.drop_succ_cons, List.drop_zero]
  by_cases w2 : way = 2
  · -- a star
    subst w2
    obtain ⟨mid, q1, hmid, em⟩ := draw_i (wn := wn) t.p (d + 4) hR q (n := n) (by omega) (by omega)
    have hok := star_ok (f := far) hmid
    have hwh := star_whole (f := far) hmid
    have hl : (star far mid n).length ≤ n := by
      unfold star
      rw [List.length_map]
      exact Nat.le_trans (List.length_filter_le _ _) (by simp)
    have c1 : (((2 : Nat) : Int) = 2) = True := by simp
    simp only [startL, List.map_cons, List.map_nil, List.length_cons, List.length_nil, List.replicate, List.replicate_succ, List.replicate_zero, List.cons_append, List.nil_append, List.append_nil, Nat.reduceAdd, Nat.reduceSub, Nat.zero_add, ↓evalE_popAt, ↓evalI_range1, ↓evalI_range2, ↓evalE_mul, ↓evalE_mod, ↓evalE_fdiv, ↓evalE_pow, evalSs, evalS, evalE, evalEs, evalT, evalI, evalO, evalC, SRes.seq_next, SRes.seq_ret, SRes.seq_err, SRes.seq_brk, SRes.seq_cnt, SRes.seq_stuck, Res.bind_ok, Res.bind_err, Res.bind_stuck, Res.st_ok, Res.st_err, Res.st_stuck, ofO_some, ofO_none, asP_d, getV_z, getV_s, Option.bind_some, Option.map_some, Option.bind_none, Option.map_none, biP, on1, ints2, unD, mkL_f, mkL_t, plain_d, truthP, List.set_cons_zero, List.set_cons_succ, ofOS, unpackV, setAll, setAllD, bindT, ite_tru, ite_fls, if_true, if_false, reduceIte, Bool.false_eq_true, Bool.not_true, Bool.not_false, retv_ok, isi_int, isi_bool, isi_tup, bLen, seqV, seqP_t, seqP_l, lstP, intsV, eq_i, ne_i, le_i, lt_i, gt_i, ge_i, add_i, sub_i, itemsOf, enumOf, Int.cast_ofNat_Int, Int.natCast_one, List.length_map, Int.reduceEq, Int.reduceLT, Int.reduceLE, em, decide_true, rg1_i (n := n) (by omega)]
    rw [show (rangeP 0 (n : Int)) = nats (List.range n) from rangeP_nat n, nats_len, List.length_range, if_pos (lim n (by omega))]
    rw [comp_fm (g := fun x => match x with
      | .int a => if a = (mid : Int) then none else some (wy (min mid a.toNat, max mid a.toNat, day far a.toNat))
      | y => none) rfl]
    · have e : (nats (List.range n)).filterMap (fun x => match x with
          | .int a => if a = (mid : Int) then none else some (wy (min mid a.toNat, max mid a.toNat, day far a.toNat))
          | y => none) = wys (star far mid n) := by
        unfold star
        generalize List.range n = l
        induction l with
        | nil => rfl
        | cons a l ih =>
          show ((PyData.int (a : Nat)) :: nats l).filterMap _ = _
          rw [List.filterMap_cons, List.filter_cons]
          by_cases c : a = mid
          · subst c
            simp only [if_true, ne_eq, not_true_eq_false, decide_false, Bool.false_eq_true, if_false]
            exact ih
          · have c' : ¬ (a : Int) = (mid : Int) := by omega
            simp only [c', if_false, ne_eq, c, not_false_eq_true, decide_true, if_true, List.map_cons, Int.toNat_natCast]
            rw [ih]
            rfl
      simp only [noErr_ok, ↓evalE_popAt, ↓evalI_range1, ↓evalI_range2, ↓evalE_mul, ↓evalE_mod, ↓evalE_fdiv, ↓evalE_pow, evalSs, evalS, evalE, evalEs, evalT, evalI, evalO, evalC, SRes.seq_next, SRes.seq_ret, SRes.seq_err, SRes.seq_brk, SRes.seq_cnt, SRes.seq_stuck, Res.bind_ok, Res.bind_err, Res.bind_stuck, Res.st_ok, Res.st_err, Res.st_stuck, ofO_some, ofO_none, asP_d, getV_z, getV_s, Option.bind_some, Option.map_some, Option.bind_none, Option.map_none, biP, on1, ints2, unD, mkL_f, mkL_t, plain_d, truthP, List.set_cons_zero, List.set_cons_succ, ofOS, unpackV, setAll, setAllD, bindT, ite_tru, ite_fls, if_true, if_false, reduceIte, Bool.false_eq_true, Bool.not_true, Bool.not_false, retv_ok, isi_int, isi_bool, isi_tup, bLen, seqV, seqP_t, seqP_l, lstP, intsV, eq_i, ne_i, le_i, lt_i, gt_i, ge_i, add_i, sub_i, itemsOf, enumOf, Int.cast_ofNat_Int, Int.natCast_one, List.length_map, Int.reduceEq, Int.reduceLT, Int.reduceLE, List.nil_append, e, bNew, sortedP_wys (lim _ (Nat.le_trans hl (by omega)))]
      exact ⟨n, sortU (star far mid n), q1, hok.web (by omega) hn (by omega) hwh, by rw [sortU_perm.length_eq]; omega, ret_p (cl_pst hR q1) (pst_len q1 R).symm _⟩
    · intro x hx
      obtain ⟨a, _, rfl⟩ := List.mem_map.mp hx
      have w1 := way_i (wn := wn) t.p (cl_pst hR q1) (d + 4) mid a (day far a)
      simp only [compF, wipeL, ↓evalE_popAt, ↓evalI_range1, ↓evalI_range2, ↓evalE_mul, ↓evalE_mod, ↓evalE_fdiv, ↓evalE_pow, evalSs, evalS, evalE, evalEs, evalT, evalI, evalO, evalC, SRes.seq_next, SRes.seq_ret, SRes.seq_err, SRes.seq_brk, SRes.seq_cnt, SRes.seq_stuck, Res.bind_ok, Res.bind_err, Res.bind_stuck, Res.st_ok, Res.st_err, Res.st_stuck, ofO_some, ofO_none, asP_d, getV_z, getV_s, Option.bind_some, Option.map_some, Option.bind_none, Option.map_none, biP, on1, ints2, unD, mkL_f, mkL_t, plain_d, truthP, List.set_cons_zero, List.set_cons_succ, ofOS, unpackV, setAll, setAllD, bindT, ite_tru, ite_fls, if_true, if_false, reduceIte, Bool.false_eq_true, Bool.not_true, Bool.not_false, retv_ok, isi_int, isi_bool, isi_tup, bLen, seqV, seqP_t, seqP_l, lstP, intsV, eq_i, ne_i, le_i, lt_i, gt_i, ge_i, add_i, sub_i, itemsOf, enumOf, Int.cast_ofNat_Int, Int.natCast_one, List.length_map, Int.reduceEq, Int.reduceLT, Int.reduceLE]
      by_cases c : (a : Int) = (mid : Int)
      · simp only [c, decide_true, ↓evalE_popAt, ↓evalI_range1, ↓evalI_range2, ↓evalE_mul, ↓evalE_mod, ↓evalE_fdiv, ↓evalE_pow, evalSs, evalS, evalE, evalEs, evalT, evalI, evalO, evalC, SRes.seq_next, SRes.seq_ret, SRes.seq_err, SRes.seq_brk, SRes.seq_cnt, SRes.seq_stuck, Res.bind_ok, Res.bind_err, Res.bind_stuck, Res.st_ok, Res.st_err, Res.st_stuck, ofO_some, ofO_none, asP_d, getV_z, getV_s, Option.bind_some, Option.map_some, Option.bind_none, Option.map_none, biP, on1, ints2, unD, mkL_f, mkL_t, plain_d, truthP, List.set_cons_zero, List.set_cons_succ, ofOS, unpackV, setAll, setAllD, bindT, ite_tru, ite_fls, if_true, if_false, reduceIte, Bool.false_eq_true, Bool.not_true, Bool.not_false, retv_ok]
      · simp only [c, decide_false, ↓evalE_popAt, ↓evalI_range1, ↓evalI_range2, ↓evalE_mul, ↓evalE_mod, ↓evalE_fdiv, ↓evalE_pow, evalSs, evalS, evalE, evalEs, evalT, evalI, evalO, evalC, SRes.seq_next, SRes.seq_ret, SRes.seq_err, SRes.seq_brk, SRes.seq_cnt, SRes.seq_stuck, Res.bind_ok, Res.bind_err, Res.bind_stuck, Res.st_ok, Res.st_err, Res.st_stuck, ofO_some, ofO_none, asP_d, getV_z, getV_s, Option.bind_some, Option.map_some, Option.bind_none, Option.map_none, biP, on1, ints2, unD, mkL_f, mkL_t, plain_d, truthP, List.set_cons_zero, List.set_cons_succ, ofOS, unpackV, setAll, setAllD, bindT, ite_tru, ite_fls, if_true, if_false, reduceIte, Bool.false_eq_true, Bool.not_true, Bool.not_false, retv_ok, kf, bInt, m200, fmod_200, isi_int, isi_bool, isi_tup, bLen, seqV, seqP_t, seqP_l, lstP, intsV, eq_i, ne_i, le_i, lt_i, gt_i, ge_i, add_i, sub_i, itemsOf, enumOf, Int.cast_ofNat_Int, Int.natCast_one, List.length_map, Int.reduceEq, Int.reduceLT, Int.reduceLE, day_i, w1, Int.toNat_natCast]
  · have w2' : ¬ ((way : Int) = 2) := by omega
    by_cases w5 : way < 5
    · have w5' : ((way : Int) < 5) := by omega
      by_cases w4 : way = 4
      · subst w4
        have := drawn_i (wn := wn) t.p (d + 1) hR q (n := n) (m := 200) (f := 6) (by omega) hn (by omega) (by omega) (by omega)
        simp only [Int.cast_ofNat_Int] at this
        obtain ⟨ls, q1, hw, _, hl, e⟩ := this
        simp only [startL, List.map_cons, List.map_nil, List.length_cons, List.length_nil, List.replicate, List.replicate_succ, List.replicate_zero, List.cons_append, List.nil_append, List.append_nil, Nat.reduceAdd, Nat.reduceSub, Nat.zero_add, ↓evalE_popAt, ↓evalI_range1, ↓evalI_range2, ↓evalE_mul, ↓evalE_mod, ↓evalE_fdiv, ↓evalE_pow, evalSs, evalS, evalE, evalEs, evalT, evalI, evalO, evalC, SRes.seq_next, SRes.seq_ret, SRes.seq_err, SRes.seq_brk, SRes.seq_cnt, SRes.seq_stuck, Res.bind_ok, Res.bind_err, Res.bind_stuck, Res.st_ok, Res.st_err, Res.st_stuck, ofO_some, ofO_none, asP_d, getV_z, getV_s, Option.bind_some, Option.map_some, Option.bind_none, Option.map_none, biP, on1, ints2, unD, mkL_f, mkL_t, plain_d, truthP, List.set_cons_zero, List.set_cons_succ, ofOS, unpackV, setAll, setAllD, bindT, ite_tru, ite_fls, if_true, if_false, reduceIte, Bool.false_eq_true, Bool.not_true, Bool.not_false, retv_ok, isi_int, isi_bool, isi_tup, bLen, seqV, seqP_t, seqP_l, lstP, intsV, eq_i, ne_i, le_i, lt_i, gt_i, ge_i, add_i, sub_i, itemsOf, enumOf, Int.cast_ofNat_Int, Int.natCast_one, List.length_map, Int.reduceEq, Int.reduceLT, Int.reduceLE, w2', w5', decide_true, decide_false, e]
        exact ⟨n, ls, q1, hw, by omega, ret_p (cl_pst hR q1) (pst_len q1 R).symm _⟩
      · have w4' : ¬ ((way : Int) = 4) := by omega
        obtain ⟨ns, q1, hns, e1⟩ := turned_i (wn := wn) t.p (d + 3) hR q (n := n) (by omega)
        obtain ⟨nl, nlt, ninj, _⟩ := perm_getD hns
        have hok := rowL_ok (g := day far) hns (day_ok far)
        have hwh := whole_of hns (by omega) (rowL_conn (g := day far) (ns := ns) (n := n))
        have hl : (rowL (day far) ns n).length ≤ n := by unfold rowL; simp
        simp only [startL, List.map_cons, List.map_nil, List.length_cons, List.length_nil, List.replicate, List.replicate_succ, List.replicate_zero, List.cons_append, List.nil_append, List.append_nil, Nat.reduceAdd, Nat.reduceSub, Nat.zero_add, ↓evalE_popAt, ↓evalI_range1, ↓evalI_range2, ↓evalE_mul, ↓evalE_mod, ↓evalE_fdiv, ↓evalE_pow, evalSs, evalS, evalE, evalEs, evalT, evalI, evalO, evalC, SRes.seq_next, SRes.seq_ret, SRes.seq_err, SRes.seq_brk, SRes.seq_cnt, SRes.seq_stuck, Res.bind_ok, Res.bind_err, Res.bind_stuck, Res.st_ok, Res.st_err, Res.st_stuck, ofO_some, ofO_none, asP_d, getV_z, getV_s, Option.bind_some, Option.map_some, Option.bind_none, Option.map_none, biP, on1, ints2, unD, mkL_f, mkL_t, plain_d, truthP, List.set_cons_zero, List.set_cons_succ, ofOS, unpackV, setAll, setAllD, bindT, ite_tru, ite_fls, if_true, if_false, reduceIte, Bool.false_eq_true, Bool.not_true, Bool.not_false, retv_ok, isi_int, isi_bool, isi_tup, bLen, seqV, seqP_t, seqP_l, lstP, intsV, eq_i, ne_i, le_i, lt_i, gt_i, ge_i, add_i, sub_i, itemsOf, enumOf, Int.cast_ofNat_Int, Int.natCast_one, List.length_map, Int.reduceEq, Int.reduceLT, Int.reduceLE, w2', w5', w4', decide_true, decide_false, e1]
        rw [show (1 : Int) = ((1 : Nat) : Int) from rfl, rg2_i (by omega) (by omega)]
        simp only [↓evalE_popAt, ↓evalI_range1, ↓evalI_range2, ↓evalE_mul, ↓evalE_mod, ↓evalE_fdiv, ↓evalE_pow, evalSs, evalS, evalE, evalEs, evalT, evalI, evalO, evalC, SRes.seq_next, SRes.seq_ret, SRes.seq_err, SRes.seq_brk, SRes.seq_cnt, SRes.seq_stuck, Res.bind_ok, Res.bind_err, Res.bind_stuck, Res.st_ok, Res.st_err, Res.st_stuck, ofO_some, ofO_none, asP_d, getV_z, getV_s, Option.bind_some, Option.map_some, Option.bind_none, Option.map_none, biP, on1, ints2, unD, mkL_f, mkL_t, plain_d, truthP, List.set_cons_zero, List.set_cons_succ, ofOS, unpackV, setAll, setAllD, bindT, ite_tru, ite_fls, if_true, if_false, reduceIte, Bool.false_eq_true, Bool.not_true, Bool.not_false, retv_ok]
        rw [rangeP_nats, nats_len, List.length_range', if_pos (lim _ (by omega))]
        rw [comp_map (g := fun x => match x with
          | .int a => wy (min (ns.getD a.toNat 0) (ns.getD (a.toNat - 1) 0), max (ns.getD a.toNat 0) (ns.getD (a.toNat - 1) 0), day far a.toNat)
          | y => y) rfl]
        · have e : (nats (List.range' 1 (n - 1))).map (fun x => match x with
              | .int a => wy (min (ns.getD a.toNat 0) (ns.getD (a.toNat - 1) 0), max (ns.getD a.toNat 0) (ns.getD (a.toNat - 1) 0), day far a.toNat)
              | y => y) = wys (rowL (day far) ns n) := by
            unfold nats wys rowL
            rw [List.map_map, List.map_map]
            refine List.map_congr_left fun a _ => ?_
            simp only [Function.comp, Int.toNat_natCast]
          simp only [noErr_ok, ↓evalE_popAt, ↓evalI_range1, ↓evalI_range2, ↓evalE_mul, ↓evalE_mod, ↓evalE_fdiv, ↓evalE_pow, evalSs, evalS, evalE, evalEs, evalT, evalI, evalO, evalC, SRes.seq_next, SRes.seq_ret, SRes.seq_err, SRes.seq_brk, SRes.seq_cnt, SRes.seq_stuck, Res.bind_ok, Res.bind_err, Res.bind_stuck, Res.st_ok, Res.st_err, Res.st_stuck, ofO_some, ofO_none, asP_d, getV_z, getV_s, Option.bind_some, Option.map_some, Option.bind_none, Option.map_none, biP, on1, ints2, unD, mkL_f, mkL_t, plain_d, truthP, List.set_cons_zero, List.set_cons_succ, ofOS, unpackV, setAll, setAllD, bindT, ite_tru, ite_fls, if_true, if_false, reduceIte, Bool.false_eq_true, Bool.not_true, Bool.not_false, retv_ok, isi_int, isi_bool, isi_tup, bLen, seqV, seqP_t, seqP_l, lstP, intsV, eq_i, ne_i, le_i, lt_i, gt_i, ge_i, add_i, sub_i, itemsOf, enumOf, Int.cast_ofNat_Int, Int.natCast_one, List.length_map, Int.reduceEq, Int.reduceLT, Int.reduceLE, List.nil_append, e, bNew, sortedP_wys (lim _ (Nat.le_trans hl (by omega)))]
          exact ⟨n, sortU (rowL (day far) ns n), q1, hok.web (by omega) hn (by omega) hwh, by rw [sortU_perm.length_eq]; omega, ret_p (cl_pst hR q1) (pst_len q1 R).symm _⟩
        · intro x hx
          obtain ⟨a, ha, rfl⟩ := List.mem_map.mp hx
          rw [List.mem_range'] at ha
          obtain ⟨i, hi, ea⟩ := ha
          have a1 : 1 ≤ a := by omega
          have an : a < n := by omega
          have g1 := ix_nats (L := ns) (i := a) (by omega)
          have g2 := ix_nats (L := ns) (i := a - 1) (by omega)
          have w1 := way_i (wn := wn) t.p (cl_pst hR q1) (d + 4) (ns.getD a 0) (ns.getD (a - 1) 0) (day far a)
          have es : (a : Int) - 1 = ((a - 1 : Nat) : Int) := by omega
          simp only [compF, wipeL, ↓evalE_popAt, ↓evalI_range1, ↓evalI_range2, ↓evalE_mul, ↓evalE_mod, ↓evalE_fdiv, ↓evalE_pow, evalSs, evalS, evalE, evalEs, evalT, evalI, evalO, evalC, SRes.seq_next, SRes.seq_ret, SRes.seq_err, SRes.seq_brk, SRes.seq_cnt, SRes.seq_stuck, Res.bind_ok, Res.bind_err, Res.bind_stuck, Res.st_ok, Res.st_err, Res.st_stuck, ofO_some, ofO_none, asP_d, getV_z, getV_s, Option.bind_some, Option.map_some, Option.bind_none, Option.map_none, biP, on1, ints2, unD, mkL_f, mkL_t, plain_d, truthP, List.set_cons_zero, List.set_cons_succ, ofOS, unpackV, setAll, setAllD, bindT, ite_tru, ite_fls, if_true, if_false, reduceIte, Bool.false_eq_true, Bool.not_true, Bool.not_false, retv_ok, isi_int, isi_bool, isi_tup, bLen, seqV, seqP_t, seqP_l, lstP, intsV, eq_i, ne_i, le_i, lt_i, gt_i, ge_i, add_i, sub_i, itemsOf, enumOf, Int.cast_ofNat_Int, Int.natCast_one, List.length_map, Int.reduceEq, Int.reduceLT, Int.reduceLE, g1, es, g2, kf, bInt, m200, fmod_200, day_i, w1, Int.toNat_natCast]
    · have w5' : ¬ ((way : Int) < 5) := by omega
      by_cases e5 : way = 5
      · subst e5
        obtain ⟨ns, q1, hns, e1⟩ := turned_i (wn := wn) t.p (d + 3) hR q (n := n) (by omega)
        obtain ⟨x, q2, hx, ex⟩ := pick_i (wn := wn) t.p (d + 3) hR q1 (ps := [.int (far : Int), .int 1, .int 2]) (by simp) (by simp)
        have : ∃ c : Nat, 1 ≤ c ∧ c ≤ 200 ∧ x = .int c := by
          simp only [List.mem_cons, List.not_mem_nil, or_false] at hx
          rcases hx with e | e | e
          · exact ⟨far, hf1, hf, e⟩
          · exact ⟨1, by omega, by omega, e⟩
          · exact ⟨2, by omega, by omega, e⟩
        obtain ⟨c, hc1, hc2, rfl⟩ := this
        obtain ⟨nl, nlt, ninj, _⟩ := perm_getD hns
        have hok := ring_ok (g := fun _ => 2) hn3 hns (fun _ => by omega) ⟨hc1, hc2⟩
        have hwh : Whole n (rowL (fun _ => 2) ns n ++ [(min (ns.getD 0 0) (ns.getD (n - 1) 0), max (ns.getD 0 0) (ns.getD (n - 1) 0), c)]) := fun i hi => (whole_of hns (by omega) (rowL_conn (g := fun _ => 2) (ns := ns) (n := n)) i hi).mono fun w m => List.mem_append_left _ m
        have hl : (rowL (fun _ => 2) ns n ++ [(min (ns.getD 0 0) (ns.getD (n - 1) 0), max (ns.getD 0 0) (ns.getD (n - 1) 0), c)]).length ≤ n + 1 := by unfold rowL; simp
        simp only [startL, List.map_cons, List.map_nil, List.length_cons, List.length_nil, List.replicate, List.replicate_succ, List.replicate_zero, List.cons_append, List.nil_append, List.append_nil, Nat.reduceAdd, Nat.reduceSub, Nat.zero_add, ↓evalE_popAt, ↓evalI_range1, ↓evalI_range2, ↓evalE_mul, ↓evalE_mod, ↓evalE_fdiv, ↓evalE_pow, evalSs, evalS, evalE, evalEs, evalT, evalI, evalO, evalC, SRes.seq_next, SRes.seq_ret, SRes.seq_err, SRes.seq_brk, SRes.seq_cnt, SRes.seq_stuck, Res.bind_ok, Res.bind_err, Res.bind_stuck, Res.st_ok, Res.st_err, Res.st_stuck, ofO_some, ofO_none, asP_d, getV_z, getV_s, Option.bind_some, Option.map_some, Option.bind_none, Option.map_none, biP, on1, ints2, unD, mkL_f, mkL_t, plain_d, truthP, List.set_cons_zero, List.set_cons_succ, ofOS, unpackV, setAll, setAllD, bindT, ite_tru, ite_fls, if_true, if_false, reduceIte, Bool.false_eq_true, Bool.not_true, Bool.not_false, retv_ok, isi_int, isi_bool, isi_tup, bLen, seqV, seqP_t, seqP_l, lstP, intsV, eq_i, ne_i, le_i, lt_i, gt_i, ge_i, add_i, sub_i, itemsOf, enumOf, Int.cast_ofNat_Int, Int.natCast_one, List.length_map, Int.reduceEq, Int.reduceLT, Int.reduceLE, w2', w5', decide_true, decide_false, e1, ex]
        rw [show (1 : Int) = ((1 : Nat) : Int) from rfl, rg2_i (by omega) (by omega)]
        simp only [↓evalE_popAt, ↓evalI_range1, ↓evalI_range2, ↓evalE_mul, ↓evalE_mod, ↓evalE_fdiv, ↓evalE_pow, evalSs, evalS, evalE, evalEs, evalT, evalI, evalO, evalC, SRes.seq_next, SRes.seq_ret, SRes.seq_err, SRes.seq_brk, SRes.seq_cnt, SRes.seq_stuck, Res.bind_ok, Res.bind_err, Res.bind_stuck, Res.st_ok, Res.st_err, Res.st_stuck, ofO_some, ofO_none, asP_d, getV_z, getV_s, Option.bind_some, Option.map_some, Option.bind_none, Option.map_none, biP, on1, ints2, unD, mkL_f, mkL_t, plain_d, truthP, List.set_cons_zero, List.set_cons_succ, ofOS, unpackV, setAll, setAllD, bindT, ite_tru, ite_fls, if_true, if_false, reduceIte, Bool.false_eq_true, Bool.not_true, Bool.not_false, retv_ok]
        rw [rangeP_nats, nats_len, List.length_range', if_pos (lim _ (by omega))]
        rw [comp_map (g := fun x => match x with
          | .int a => wy (min (ns.getD a.toNat 0) (ns.getD (a.toNat - 1) 0), max (ns.getD a.toNat 0) (ns.getD (a.toNat - 1) 0), 2)
          | y => y) rfl]
        · have e : (nats (List.range' 1 (n - 1))).map (fun x => match x with
              | .int a => wy (min (ns.getD a.toNat 0) (ns.getD (a.toNat - 1) 0), max (ns.getD a.toNat 0) (ns.getD (a.toNat - 1) 0), 2)
              | y => y) = wys (rowL (fun _ => 2) ns n) := by
            unfold nats wys rowL
            rw [List.map_map, List.map_map]
            refine List.map_congr_left fun a _ => ?_
            simp only [Function.comp, Int.toNat_natCast]
          have g1 := ix_0 (L := ns) (by omega)
          have g2 := ix_nats (L := ns) (i := n - 1) (by omega)
          have es : (n : Int) - 1 = ((n - 1 : Nat) : Int) := by omega
          have w1 := way_i (wn := wn) t.p (cl_pst hR q2) (d + 4) (ns.getD 0 0) (ns.getD (n - 1) 0) c
          have ha : ∀ a b : List Wy, a.length + b.length ≤ 5000 → binP .add (.list (wys a)) (.list (wys b)) = some (.list (wys (a ++ b))) := fun a b h => by
            show (if (wys a).length + (wys b).length ≤ LIM then some (PyData.list (wys a ++ wys b)) else none) = _
            rw [if_pos (by rw [wys_len, wys_len]; exact lim _ h)]
            unfold wys; rw [List.map_append]
          have ha2 := ha (rowL (fun _ => 2) ns n) [(min (ns.getD 0 0) (ns.getD (n - 1) 0), max (ns.getD 0 0) (ns.getD (n - 1) 0), c)] (by rw [List.length_append] at hl; omega)
          have e9 : wys [(min (ns.getD 0 0) (ns.getD (n - 1) 0), max (ns.getD 0 0) (ns.getD (n - 1) 0), c)] = [wy (min (ns.getD 0 0) (ns.getD (n - 1) 0), max (ns.getD 0 0) (ns.getD (n - 1) 0), c)] := rfl
          rw [e9] at ha2
          simp only [noErr_ok, ↓evalE_popAt, ↓evalI_range1, ↓evalI_range2, ↓evalE_mul, ↓evalE_mod, ↓evalE_fdiv, ↓evalE_pow, evalSs, evalS, evalE, evalEs, evalT, evalI, evalO, evalC, SRes.seq_next, SRes.seq_ret, SRes.seq_err, SRes.seq_brk, SRes.seq_cnt, SRes.seq_stuck, Res.bind_ok, Res.bind_err, Res.bind_stuck, Res.st_ok, Res.st_err, Res.st_stuck, ofO_some, ofO_none, asP_d, getV_z, getV_s, Option.bind_some, Option.map_some, Option.bind_none, Option.map_none, biP, on1, ints2, unD, mkL_f, mkL_t, plain_d, truthP, List.set_cons_zero, List.set_cons_succ, ofOS, unpackV, setAll, setAllD, bindT, ite_tru, ite_fls, if_true, if_false, reduceIte, Bool.false_eq_true, Bool.not_true, Bool.not_false, retv_ok, isi_int, isi_bool, isi_tup, bLen, seqV, seqP_t, seqP_l, lstP, intsV, eq_i, ne_i, le_i, lt_i, gt_i, ge_i, add_i, sub_i, itemsOf, enumOf, Int.cast_ofNat_Int, Int.natCast_one, List.length_map, Int.reduceEq, Int.reduceLT, Int.reduceLE, List.nil_append, e, g1, es, g2, w1, ha2, bNew, sortedP_wys (lim _ (Nat.le_trans hl (by omega)))]
          exact ⟨n, sortU _, q2, hok.web (by omega) hn (by omega) hwh, by rw [sortU_perm.length_eq]; omega, ret_p (cl_pst hR q2) (pst_len q2 R).symm _⟩
        · intro x hx
          obtain ⟨a, ha, rfl⟩ := List.mem_map.mp hx
          rw [List.mem_range'] at ha
          obtain ⟨i, hi, ea⟩ := ha
          have a1 : 1 ≤ a := by omega
          have an : a < n := by omega
          have g1 := ix_nats (L := ns) (i := a) (by omega)
          have g2 := ix_nats (L := ns) (i := a - 1) (by omega)
          have w1 := way_i (wn := wn) t.p (cl_pst hR q2) (d + 4) (ns.getD a 0) (ns.getD (a - 1) 0) 2
          simp only [Int.cast_ofNat_Int] at w1
          have es : (a : Int) - 1 = ((a - 1 : Nat) : Int) := by omega
          simp only [compF, wipeL, ↓evalE_popAt, ↓evalI_range1, ↓evalI_range2, ↓evalE_mul, ↓evalE_mod, ↓evalE_fdiv, ↓evalE_pow, evalSs, evalS, evalE, evalEs, evalT, evalI, evalO, evalC, SRes.seq_next, SRes.seq_ret, SRes.seq_err, SRes.seq_brk, SRes.seq_cnt, SRes.seq_stuck, Res.bind_ok, Res.bind_err, Res.bind_stuck, Res.st_ok, Res.st_err, Res.st_stuck, ofO_some, ofO_none, asP_d, getV_z, getV_s, Option.bind_some, Option.map_some, Option.bind_none, Option.map_none, biP, on1, ints2, unD, mkL_f, mkL_t, plain_d, truthP, List.set_cons_zero, List.set_cons_succ, ofOS, unpackV, setAll, setAllD, bindT, ite_tru, ite_fls, if_true, if_false, reduceIte, Bool.false_eq_true, Bool.not_true, Bool.not_false, retv_ok, isi_int, isi_bool, isi_tup, bLen, seqV, seqP_t, seqP_l, lstP, intsV, eq_i, ne_i, le_i, lt_i, gt_i, ge_i, add_i, sub_i, itemsOf, enumOf, Int.cast_ofNat_Int, Int.natCast_one, List.length_map, Int.reduceEq, Int.reduceLT, Int.reduceLE, g1, es, g2, w1, Int.toNat_natCast]
      · have e5' : ¬ ((way : Int) = 5) := by omega
        simp only [startL, List.map_cons, List.map_nil, List.length_cons, List.length_nil, List.replicate, List.replicate_succ, List.replicate_zero, List.cons_append, List.nil_append, List.append_nil, Nat.reduceAdd, Nat.reduceSub, Nat.zero_add, ↓evalE_popAt, ↓evalI_range1, ↓evalI_range2, ↓evalE_mul, ↓evalE_mod, ↓evalE_fdiv, ↓evalE_pow, evalSs, evalS, evalE, evalEs, evalT, evalI, evalO, evalC, SRes.seq_next, SRes.seq_ret, SRes.seq_err, SRes.seq_brk, SRes.seq_cnt, SRes.seq_stuck, Res.bind_ok, Res.bind_err, Res.bind_stuck, Res.st_ok, Res.st_err, Res.st_stuck, ofO_some, ofO_none, asP_d, getV_z, getV_s, Option.bind_some, Option.map_some, Option.bind_none, Option.map_none, biP, on1, ints2, unD, mkL_f, mkL_t, plain_d, truthP, List.set_cons_zero, List.set_cons_succ, ofOS, unpackV, setAll, setAllD, bindT, ite_tru, ite_fls, if_true, if_false, reduceIte, Bool.false_eq_true, Bool.not_true, Bool.not_false, retv_ok, isi_int, isi_bool, isi_tup, bLen, seqV, seqP_t, seqP_l, lstP, intsV, eq_i, ne_i, le_i, lt_i, gt_i, ge_i, add_i, sub_i, itemsOf, enumOf, Int.cast_ofNat_Int, Int.natCast_one, List.length_map, Int.reduceEq, Int.reduceLT, Int.reduceLE, w2', w5', e5', decide_true, decide_false, rg1_i (n := n) (by omega)]
        refine for_then (P := fun r => ∃ n ls p', WebOk n ls ∧ ls.length ≤ 2000 ∧ outF false (R.length + 2) r = .ok (.d (web n ls)) (pst p' ++ R))
          (fun xs l S1 => ∃ (k : Nat) (q : Pool) (ws : List Wy) (j3 j6 j7 j8 j9 j10 : Option DV), xs = rangeP (k : Int) (n : Int) ∧ k ≤ n ∧ l = [some (.ref 1), some (.d (.int n)), some (.d (.list (wys ws))), j3, some (.d (.int way)), some (.d (.int far)), j6, j7, j8, j9, j10] ∧ S1 = pst q ++ R ∧ AllOk n k ws)
          ⟨0, q, [], j3, j6, j7, j8, j9, j10, rfl, by omega, rfl, rfl, ⟨by simp, by simp, by omega, by simp⟩⟩ ?_ ?_
        · rintro x r l S1 ⟨k, q, ws, j3, j6, j7, j8, j9, j10, ex, hk, el, eS, hA⟩
          by_cases kn : k < n
          · rw [rangeP_cons kn] at ex
            obtain ⟨rfl, rfl⟩ := List.cons.inj ex
            have ek : (k : Int) + 1 = ((k + 1 : Nat) : Int) := by omega
            rw [el, eS]
            simp only [forF, startL, List.map_cons, List.map_nil, List.length_cons, List.length_nil, List.replicate, List.replicate_succ, List.replicate_zero, List.cons_append, List.nil_append, List.append_nil, Nat.reduceAdd, Nat.reduceSub, Nat.zero_add, ↓evalE_popAt, ↓evalI_range1, ↓evalI_range2, ↓evalE_mul, ↓evalE_mod, ↓evalE_fdiv, ↓evalE_pow, evalSs, evalS, evalE, evalEs, evalT, evalI, evalO, evalC, SRes.seq_next, SRes.seq_ret, SRes.seq_err, SRes.seq_brk, SRes.seq_cnt, SRes.seq_stuck, Res.bind_ok, Res.bind_err, Res.bind_stuck, Res.st_ok, Res.st_err, Res.st_stuck, ofO_some, ofO_none, asP_d, getV_z, getV_s, Option.bind_some, Option.map_some, Option.bind_none, Option.map_none, biP, on1, ints2, unD, mkL_f, mkL_t, plain_d, truthP, List.set_cons_zero, List.set_cons_succ, ofOS, unpackV, setAll, setAllD, bindT, ite_tru, ite_fls, if_true, if_false, reduceIte, Bool.false_eq_true, Bool.not_true, Bool.not_false, retv_ok, isi_int, isi_bool, isi_tup, bLen, seqV, seqP_t, seqP_l, lstP, intsV, eq_i, ne_i, le_i, lt_i, gt_i, ge_i, add_i, sub_i, itemsOf, enumOf, Int.cast_ofNat_Int, Int.natCast_one, List.length_map, Int.reduceEq, Int.reduceLT, Int.reduceLE, ek, rg2_i (m := k + 1) (n := n) (by omega) (by omega)]
            rw [rangeP_nats, nats_len, List.length_range', if_pos (lim _ (by omega))]
            obtain ⟨row, S2, er, ⟨q2, eS2⟩, hr, hm⟩ := comp_wys (w := ⟨nats (List.range' (k + 1) (n - (k + 1))), none⟩) (J := fun S => ∃ q, S = pst q ++ R) (one := k) (os := List.range' (k + 1) (n - (k + 1))) (acc := []) (S := pst q ++ R)
              (f := compF (fun l2 S2 => evalC (callF T wn (d + 5)) none l2 S2) (fun l2 S2 => evalE (callF T wn (d + 5)) (.tup [(.var 3), (.var 10), (.ite (.cmp .eq (.var 4) (.lit (.int 6))) (.var 5) (.call "_law_web_days" [(.var 0), (.lit (.int 4))]))]) l2 S2) (.name 10) (wipeL [some (.ref 1), some (.d (.int n)), some (.d (.list (wys ws))), some (.d (.int k)), some (.d (.int way)), some (.d (.int far)), j6, j7, j8, j9, j10] [10])) rfl
              (by
                rintro o S ⟨q, rfl⟩
                by_cases w6 : way = 6
                · subst w6
                  refine ⟨far, pst q ++ R, ?_, ⟨q, rfl⟩, hf1, hf⟩
                  simp only [compF, wipeL, ↓evalE_popAt, ↓evalI_range1, ↓evalI_range2, ↓evalE_mul, ↓evalE_mod, ↓evalE_fdiv, ↓evalE_pow, evalSs, evalS, evalE, evalEs, evalT, evalI, evalO, evalC, SRes.seq_next, SRes.seq_ret, SRes.seq_err, SRes.seq_brk, SRes.seq_cnt, SRes.seq_stuck, Res.bind_ok, Res.bind_err, Res.bind_stuck, Res.st_ok, Res.st_err, Res.st_stuck, ofO_some, ofO_none, asP_d, getV_z, getV_s, Option.bind_some, Option.map_some, Option.bind_none, Option.map_none, biP, on1, ints2, unD, mkL_f, mkL_t, plain_d, truthP, List.set_cons_zero, List.set_cons_succ, ofOS, unpackV, setAll, setAllD, bindT, ite_tru, ite_fls, if_true, if_false, reduceIte, Bool.false_eq_true, Bool.not_true, Bool.not_false, retv_ok, isi_int, isi_bool, isi_tup, bLen, seqV, seqP_t, seqP_l, lstP, intsV, eq_i, ne_i, le_i, lt_i, gt_i, ge_i, add_i, sub_i, itemsOf, enumOf, Int.cast_ofNat_Int, Int.natCast_one, List.length_map, Int.reduceEq, Int.reduceLT, Int.reduceLE, decide_true]
                  rfl
                · have w6' : ¬ ((way : Int) = 6) := by omega
                  have := days_i (wn := wn) t.p (d + 2) hR q (m := 4) (by omega) (by omega)
                  simp only [Int.cast_ofNat_Int] at this
                  obtain ⟨y, q2, hy1, hy2, ey⟩ := this
                  refine ⟨y, pst q2 ++ R, ?_, ⟨q2, rfl⟩, hy1, by omega⟩
                  simp only [compF, wipeL, ↓evalE_popAt, ↓evalI_range1, ↓evalI_range2, ↓evalE_mul, ↓evalE_mod, ↓evalE_fdiv, ↓evalE_pow, evalSs, evalS, evalE, evalEs, evalT, evalI, evalO, evalC, SRes.seq_next, SRes.seq_ret, SRes.seq_err, SRes.seq_brk, SRes.seq_cnt, SRes.seq_stuck, Res.bind_ok, Res.bind_err, Res.bind_stuck, Res.st_ok, Res.st_err, Res.st_stuck, ofO_some, ofO_none, asP_d, getV_z, getV_s, Option.bind_some, Option.map_some, Option.bind_none, Option.map_none, biP, on1, ints2, unD, mkL_f, mkL_t, plain_d, truthP, List.set_cons_zero, List.set_cons_succ, ofOS, unpackV, setAll, setAllD, bindT, ite_tru, ite_fls, if_true, if_false, reduceIte, Bool.false_eq_true, Bool.not_true, Bool.not_false, retv_ok, isi_int, isi_bool, isi_tup, bLen, seqV, seqP_t, seqP_l, lstP, intsV, eq_i, ne_i, le_i, lt_i, gt_i, ge_i, add_i, sub_i, itemsOf, enumOf, Int.cast_ofNat_Int, Int.natCast_one, List.length_map, Int.reduceEq, Int.reduceLT, Int.reduceLE, w6', decide_false, ey]
                  rfl) ⟨q, rfl⟩
            simp only [↓evalE_popAt, ↓evalI_range1, ↓evalI_range2, ↓evalE_mul, ↓evalE_mod, ↓evalE_fdiv, ↓evalE_pow, evalSs, evalS, evalE, evalEs, evalT, evalI, evalO, evalC, SRes.seq_next, SRes.seq_ret, SRes.seq_err, SRes.seq_brk, SRes.seq_cnt, SRes.seq_stuck, Res.bind_ok, Res.bind_err, Res.bind_stuck, Res.st_ok, Res.st_err, Res.st_stuck, ofO_some, ofO_none, asP_d, getV_z, getV_s, Option.bind_some, Option.map_some, Option.bind_none, Option.map_none, biP, on1, ints2, unD, mkL_f, mkL_t, plain_d, truthP, List.set_cons_zero, List.set_cons_succ, ofOS, unpackV, setAll, setAllD, bindT, ite_tru, ite_fls, if_true, if_false, reduceIte, Bool.false_eq_true, Bool.not_true, Bool.not_false, retv_ok] at er
            rw [er, eS2]
            have hA2 := hA.more hr hm
            have hlen : (ws ++ row).length ≤ 1600 := Nat.le_trans hA2.len (Nat.le_trans (Nat.mul_le_mul (show k + 1 ≤ 40 by omega) hn) (by omega))
            have ha : binP .add (.list (wys ws)) (.list (wys row)) = some (.list (wys (ws ++ row))) := by
              show (if (wys ws).length + (wys row).length ≤ LIM then some (PyData.list (wys ws ++ wys row)) else none) = _
              rw [List.length_append] at hlen
              rw [if_pos (by rw [wys_len, wys_len]; exact lim _ (by omega))]
              unfold wys; rw [List.map_append]
            simp only [noErr_ok, ↓evalE_popAt, ↓evalI_range1, ↓evalI_range2, ↓evalE_mul, ↓evalE_mod, ↓evalE_fdiv, ↓evalE_pow, evalSs, evalS, evalE, evalEs, evalT, evalI, evalO, evalC, SRes.seq_next, SRes.seq_ret, SRes.seq_err, SRes.seq_brk, SRes.seq_cnt, SRes.seq_stuck, Res.bind_ok, Res.bind_err, Res.bind_stuck, Res.st_ok, Res.st_err, Res.st_stuck, ofO_some, ofO_none, asP_d, getV_z, getV_s, Option.bind_some, Option.map_some, Option.bind_none, Option.map_none, biP, on1, ints2, unD, mkL_f, mkL_t, plain_d, truthP, List.set_cons_zero, List.set_cons_succ, ofOS, unpackV, setAll, setAllD, bindT, ite_tru, ite_fls, if_true, if_false, reduceIte, Bool.false_eq_true, Bool.not_true, Bool.not_false, retv_ok, isi_int, isi_bool, isi_tup, bLen, seqV, seqP_t, seqP_l, lstP, intsV, eq_i, ne_i, le_i, lt_i, gt_i, ge_i, add_i, sub_i, itemsOf, enumOf, Int.cast_ofNat_Int, Int.natCast_one, List.length_map, Int.reduceEq, Int.reduceLT, Int.reduceLE, List.nil_append, ha]
            exact ⟨_, _, rfl, rfl, k + 1, q2, ws ++ row, _, _, _, _, _, _, (rangeP_nats (k + 1) n).symm, by omega, rfl, rfl, hA2⟩
          · rw [rangeP_nil (by omega)] at ex; cases ex
        · rintro l S1 ⟨k, q, ws, j3, j6, j7, j8, j9, j10, ex, hk, el, eS, hA⟩
          have kn : k = n := by
            by_cases c : k < n
            · rw [rangeP_cons c] at ex; cases ex
            · omega
          subst kn
          rw [el, eS]
          refine ⟨k, ws, q, hA.web (by omega) hn, Nat.le_trans hA.len (Nat.le_trans (Nat.mul_le_mul hn hn) (by omega)), ?_⟩
          simp only [startL, List.map_cons, List.map_nil, List.length_cons, List.length_nil, List.replicate, List.replicate_succ, List.replicate_zero, List.cons_append, List.nil_append, List.append_nil, Nat.reduceAdd, Nat.reduceSub, Nat.zero_add, ↓evalE_popAt, ↓evalI_range1, ↓evalI_range2, ↓evalE_mul, ↓evalE_mod, ↓evalE_fdiv, ↓evalE_pow, evalSs, evalS, evalE, evalEs, evalT, evalI, evalO, evalC, SRes.seq_next, SRes.seq_ret, SRes.seq_err, SRes.seq_brk, SRes.seq_cnt, SRes.seq_stuck, Res.bind_ok, Res.bind_err, Res.bind_stuck, Res.st_ok, Res.st_err, Res.st_stuck, ofO_some, ofO_none, asP_d, getV_z, getV_s, Option.bind_some, Option.map_some, Option.bind_none, Option.map_none, biP, on1, ints2, unD, mkL_f, mkL_t, plain_d, truthP, List.set_cons_zero, List.set_cons_succ, ofOS, unpackV, setAll, setAllD, bindT, ite_tru, ite_fls, if_true, if_false, reduceIte, Bool.false_eq_true, Bool.not_true, Bool.not_false, retv_ok, isi_int, isi_bool, isi_tup, bLen, seqV, seqP_t, seqP_l, lstP, intsV, eq_i, ne_i, le_i, lt_i, gt_i, ge_i, add_i, sub_i, itemsOf, enumOf, Int.cast_ofNat_Int, Int.natCast_one, List.length_map, Int.reduceEq, Int.reduceLT, Int.reduceLE]
          exact ret_p (cl_pst hR q) (pst_len q R).symm _
end EvP
end
section
set_option maxRecDepth 100000
set_option maxHeartbeats 2000000
/-! EvP12: any drawn web, drawn loans. -/
namespace EvP
open Ev PySem L2 MW
theorem evalSs_append {C : Calls} {n : Nat} : ∀ {a b : List MS} {l : Loc} {S : Sto}, evalSs C n (a ++ b) l S = (evalSs C n a l S).seq fun l1 S1 => evalSs C n b l1 S1
  | [], b, l, S => by rw [List.nil_append, evalSs]; rfl
  | s :: a, b, l, S => by
    rw [List.cons_append, evalSs, evalSs]
    cases evalS C n s l S with
    | next l1 S1 => simp only [SRes.seq_next]; exact evalSs_append
    | _ => rfl
variable {T : String → Option Fn} {wn : Nat} (t : TR T)
include t
theorem rims_i (d : Nat) {R : Sto} (hR : NB R) (p : Pool) : ∃ n ls p', WebOk n ls ∧ ls.length ≤ 2000 ∧ callF T wn (d + 6) "_law_web_rims" [.ref 1] (pst p ++ R) = .ok (.d (web n ls)) (pst p' ++ R) := by
  have D : ∀ (m : Nat) (p : Pool), 0 < m → m < 1000 → ∃ v p', v < m ∧ callF T wn (d + 5) "_law_draw" [.ref 1, .d (.int m)] (pst p ++ R) = .ok (.d (.int (v : Nat))) (pst p' ++ R) := fun m p h h2 => draw_i t.p (d + 4) hR p h (by omega)
  obtain ⟨way, p1, hway, e1⟩ := D 8 p (by decide) (by decide)
  obtain ⟨f0, p2, hf0, e2⟩ := D 200 p1 (by decide) (by decide)
  simp only [Int.cast_ofNat_Int] at e1 e2
  have ef : (1 : Int) + (f0 : Int) = ((1 + f0 : Nat) : Int) := by omega
  have hf1 : 1 ≤ 1 + f0 := by omega
  have hf : 1 + f0 ≤ 200 := by omega
  generalize 1 + f0 = far at ef hf1 hf
  have tail := @rims_tail T wn t d R hR
  have split : C.t__law_web_rims.body = C.t__law_web_rims.body.take 5 ++ C.t__law_web_rims.body.drop 5 := (List.take_append_drop 5 _).symm
  rw [callF_eq t.rims rfl, split, evalSs_append, pst_len]
  generalize C.t__law_web_rims.body.drop 5 = tl at tail ⊢
  simp only [C.t__law_web_rims, List.take_succ_cons, List.take_zero]
  by_cases w0 : way = 0
  · subst w0
    refine ⟨1, [], p2, ⟨by omega, by omega, by simp, by simp, fun i hi => by rw [show i = 0 by omega]; exact .refl _⟩, by simp, ?_⟩
    simp only [startL, List.map_cons, List.map_nil, List.length_cons, List.length_nil, List.replicate, List.replicate_succ, List.replicate_zero, List.cons_append, List.nil_append, List.append_nil, Nat.reduceAdd, Nat.reduceSub, Nat.zero_add, ↓evalE_popAt, ↓evalI_range1, ↓evalI_range2, ↓evalE_mul, ↓evalE_mod, ↓evalE_fdiv, ↓evalE_pow, evalSs, evalS, evalE, evalEs, evalT, evalI, evalO, evalC, SRes.seq_next, SRes.seq_ret, SRes.seq_err, SRes.seq_brk, SRes.seq_cnt, SRes.seq_stuck, Res.bind_ok, Res.bind_err, Res.bind_stuck, Res.st_ok, Res.st_err, Res.st_stuck, ofO_some, ofO_none, asP_d, getV_z, getV_s, Option.bind_some, Option.map_some, Option.bind_none, Option.map_none, biP, on1, ints2, unD, mkL_f, mkL_t, plain_d, truthP, List.set_cons_zero, List.set_cons_succ, ofOS, unpackV, setAll, setAllD, bindT, ite_tru, ite_fls, if_true, if_false, reduceIte, Bool.false_eq_true, Bool.not_true, Bool.not_false, retv_ok, isi_int, isi_bool, isi_tup, bLen, seqV, seqP_t, seqP_l, lstP, intsV, eq_i, ne_i, le_i, lt_i, gt_i, ge_i, add_i, sub_i, itemsOf, enumOf, Int.cast_ofNat_Int, Int.natCast_one, List.length_map, Int.reduceEq, Int.reduceLT, Int.reduceLE, e1, e2, ef, Int.natCast_zero, decide_true]
    exact ret_p (cl_pst hR p2) (pst_len p2 R).symm _
  · have w0' : ¬ ((way : Int) = 0) := by omega
    by_cases w1 : way = 1
    · subst w1
      obtain ⟨x, p3, hx, ex⟩ := pick_i (wn := wn) t.p (d + 3) hR p2 (ps := [.int 1, .int (far : Int), .int 200]) (by simp) (by simp)
      have : ∃ c : Nat, 1 ≤ c ∧ c ≤ 200 ∧ x = .int c := by
        simp only [List.mem_cons, List.not_mem_nil, or_false] at hx
        rcases hx with e | e | e
        · exact ⟨1, by omega, by omega, e⟩
        · exact ⟨far, hf1, hf, e⟩
        · exact ⟨200, by omega, by omega, e⟩
      obtain ⟨c, hc1, hc2, rfl⟩ := this
      refine ⟨2, [(0, 1, c)], p3, ⟨by omega, by omega, fun w m => ?_, by simp, fun i hi => ?_⟩, by simp, ?_⟩
      · rw [List.mem_singleton.mp m]; dsimp only; omega
      · by_cases i0 : i = 0
        · subst i0; exact .refl _
        · rw [show i = 1 by omega]; exact .of (d := c) (by simp)
      · simp only [startL, List.map_cons, List.map_nil, List.length_cons, List.length_nil, List.replicate, List.replicate_succ, List.replicate_zero, List.cons_append, List.nil_append, List.append_nil, Nat.reduceAdd, Nat.reduceSub, Nat.zero_add, ↓evalE_popAt, ↓evalI_range1, ↓evalI_range2, ↓evalE_mul, ↓evalE_mod, ↓evalE_fdiv, ↓evalE_pow, evalSs, evalS, evalE, evalEs, evalT, evalI, evalO, evalC, SRes.seq_next, SRes.seq_ret, SRes.seq_err, SRes.seq_brk, SRes.seq_cnt, SRes.seq_stuck, Res.bind_ok, Res.bind_err, Res.bind_stuck, Res.st_ok, Res.st_err, Res.st_stuck, ofO_some, ofO_none, asP_d, getV_z, getV_s, Option.bind_some, Option.map_some, Option.bind_none, Option.map_none, biP, on1, ints2, unD, mkL_f, mkL_t, plain_d, truthP, List.set_cons_zero, List.set_cons_succ, ofOS, unpackV, setAll, setAllD, bindT, ite_tru, ite_fls, if_true, if_false, reduceIte, Bool.false_eq_true, Bool.not_true, Bool.not_false, retv_ok, isi_int, isi_bool, isi_tup, bLen, seqV, seqP_t, seqP_l, lstP, intsV, eq_i, ne_i, le_i, lt_i, gt_i, ge_i, add_i, sub_i, itemsOf, enumOf, Int.cast_ofNat_Int, Int.natCast_one, List.length_map, Int.reduceEq, Int.reduceLT, Int.reduceLE, e1, e2, ef, Int.natCast_one, decide_true, decide_false, ex]
        exact ret_p (cl_pst hR p3) (pst_len p3 R).symm _
    · have w1' : ¬ ((way : Int) = 1) := by omega
      by_cases w5 : way < 5
      · have w5' : ((way : Int) < 5) := by omega
        have w5n : ¬ ((way : Int) = 5) := by omega
        obtain ⟨g, p3, hg, e3⟩ := D 30 p2 (by decide) (by decide)
        simp only [Int.cast_ofNat_Int] at e3
        obtain ⟨x, p4, hx, ex⟩ := pick_i (wn := wn) t.p (d + 3) hR p3 (ps := [.int (11 + (g : Int)), .int 40]) (by simp) (by simp)
        have : ∃ c : Nat, 3 ≤ c ∧ c ≤ 40 ∧ x = .int c := by
          simp only [List.mem_cons, List.not_mem_nil, or_false] at hx
          rcases hx with e | e
          · exact ⟨11 + g, by omega, by omega, by rw [e]; congr 1⟩
          · exact ⟨40, by omega, by omega, e⟩
        obtain ⟨c, hc1, hc2, rfl⟩ := this
        simp only [startL, List.map_cons, List.map_nil, List.length_cons, List.length_nil, List.replicate, List.replicate_succ, List.replicate_zero, List.cons_append, List.nil_append, List.append_nil, Nat.reduceAdd, Nat.reduceSub, Nat.zero_add, ↓evalE_popAt, ↓evalI_range1, ↓evalI_range2, ↓evalE_mul, ↓evalE_mod, ↓evalE_fdiv, ↓evalE_pow, evalSs, evalS, evalE, evalEs, evalT, evalI, evalO, evalC, SRes.seq_next, SRes.seq_ret, SRes.seq_err, SRes.seq_brk, SRes.seq_cnt, SRes.seq_stuck, Res.bind_ok, Res.bind_err, Res.bind_stuck, Res.st_ok, Res.st_err, Res.st_stuck, ofO_some, ofO_none, asP_d, getV_z, getV_s, Option.bind_some, Option.map_some, Option.bind_none, Option.map_none, biP, on1, ints2, unD, mkL_f, mkL_t, plain_d, truthP, List.set_cons_zero, List.set_cons_succ, ofOS, unpackV, setAll, setAllD, bindT, ite_tru, ite_fls, if_true, if_false, reduceIte, Bool.false_eq_true, Bool.not_true, Bool.not_false, retv_ok, isi_int, isi_bool, isi_tup, bLen, seqV, seqP_t, seqP_l, lstP, intsV, eq_i, ne_i, le_i, lt_i, gt_i, ge_i, add_i, sub_i, itemsOf, enumOf, Int.cast_ofNat_Int, Int.natCast_one, List.length_map, Int.reduceEq, Int.reduceLT, Int.reduceLE, e1, e2, ef, w0', w1', w5', w5n, decide_true, decide_false, e3, ex]
        exact tail p4 (by omega) hway hf1 hf hc1 hc2 _ _ _ _ _ _ _
      · have w5' : ¬ ((way : Int) < 5) := by omega
        obtain ⟨g, p3, hg, e3⟩ := D 4 p2 (by decide) (by decide)
        simp only [Int.cast_ofNat_Int] at e3
        have eg : (3 : Int) + (g : Int) = ((3 + g : Nat) : Int) := by omega
        by_cases w6 : way = 5
        · subst w6
          obtain ⟨u, p4, hu, e4⟩ := D 3 p3 (by decide) (by decide)
          obtain ⟨v, p5, hv, e5⟩ := D 30 p4 (by decide) (by decide)
          simp only [Int.cast_ofNat_Int] at e4 e5
          have ev : (11 : Int) + (v : Int) = ((11 + v : Nat) : Int) := by omega
          simp only [startL, List.map_cons, List.map_nil, List.length_cons, List.length_nil, List.replicate, List.replicate_succ, List.replicate_zero, List.cons_append, List.nil_append, List.append_nil, Nat.reduceAdd, Nat.reduceSub, Nat.zero_add, ↓evalE_popAt, ↓evalI_range1, ↓evalI_range2, ↓evalE_mul, ↓evalE_mod, ↓evalE_fdiv, ↓evalE_pow, evalSs, evalS, evalE, evalEs, evalT, evalI, evalO, evalC, SRes.seq_next, SRes.seq_ret, SRes.seq_err, SRes.seq_brk, SRes.seq_cnt, SRes.seq_stuck, Res.bind_ok, Res.bind_err, Res.bind_stuck, Res.st_ok, Res.st_err, Res.st_stuck, ofO_some, ofO_none, asP_d, getV_z, getV_s, Option.bind_some, Option.map_some, Option.bind_none, Option.map_none, biP, on1, ints2, unD, mkL_f, mkL_t, plain_d, truthP, List.set_cons_zero, List.set_cons_succ, ofOS, unpackV, setAll, setAllD, bindT, ite_tru, ite_fls, if_true, if_false, reduceIte, Bool.false_eq_true, Bool.not_true, Bool.not_false, retv_ok, isi_int, isi_bool, isi_tup, bLen, seqV, seqP_t, seqP_l, lstP, intsV, eq_i, ne_i, le_i, lt_i, gt_i, ge_i, add_i, sub_i, itemsOf, enumOf, Int.cast_ofNat_Int, Int.natCast_one, List.length_map, Int.reduceEq, Int.reduceLT, Int.reduceLE, e1, e2, ef, decide_true, decide_false, e3, e4, eg]
          by_cases u0 : (u : Int) = 0
          · simp only [u0, decide_true, ↓evalE_popAt, ↓evalI_range1, ↓evalI_range2, ↓evalE_mul, ↓evalE_mod, ↓evalE_fdiv, ↓evalE_pow, evalSs, evalS, evalE, evalEs, evalT, evalI, evalO, evalC, SRes.seq_next, SRes.seq_ret, SRes.seq_err, SRes.seq_brk, SRes.seq_cnt, SRes.seq_stuck, Res.bind_ok, Res.bind_err, Res.bind_stuck, Res.st_ok, Res.st_err, Res.st_stuck, ofO_some, ofO_none, asP_d, getV_z, getV_s, Option.bind_some, Option.map_some, Option.bind_none, Option.map_none, biP, on1, ints2, unD, mkL_f, mkL_t, plain_d, truthP, List.set_cons_zero, List.set_cons_succ, ofOS, unpackV, setAll, setAllD, bindT, ite_tru, ite_fls, if_true, if_false, reduceIte, Bool.false_eq_true, Bool.not_true, Bool.not_false, retv_ok, isi_int, isi_bool, isi_tup, bLen, seqV, seqP_t, seqP_l, lstP, intsV, eq_i, ne_i, le_i, lt_i, gt_i, ge_i, add_i, sub_i, itemsOf, enumOf, Int.cast_ofNat_Int, Int.natCast_one, List.length_map, Int.reduceEq, Int.reduceLT, Int.reduceLE, e5, ev]
            exact tail p5 (by omega) hway hf1 hf (by omega) (by omega) _ _ _ _ _ _ _
          · simp only [u0, decide_false, ↓evalE_popAt, ↓evalI_range1, ↓evalI_range2, ↓evalE_mul, ↓evalE_mod, ↓evalE_fdiv, ↓evalE_pow, evalSs, evalS, evalE, evalEs, evalT, evalI, evalO, evalC, SRes.seq_next, SRes.seq_ret, SRes.seq_err, SRes.seq_brk, SRes.seq_cnt, SRes.seq_stuck, Res.bind_ok, Res.bind_err, Res.bind_stuck, Res.st_ok, Res.st_err, Res.st_stuck, ofO_some, ofO_none, asP_d, getV_z, getV_s, Option.bind_some, Option.map_some, Option.bind_none, Option.map_none, biP, on1, ints2, unD, mkL_f, mkL_t, plain_d, truthP, List.set_cons_zero, List.set_cons_succ, ofOS, unpackV, setAll, setAllD, bindT, ite_tru, ite_fls, if_true, if_false, reduceIte, Bool.false_eq_true, Bool.not_true, Bool.not_false, retv_ok]
            exact tail p4 (by omega) hway hf1 hf (by omega) (by omega) _ _ _ _ _ _ _
        · have w6' : ¬ ((way : Int) = 5) := by omega
          simp only [startL, List.map_cons, List.map_nil, List.length_cons, List.length_nil, List.replicate, List.replicate_succ, List.replicate_zero, List.cons_append, List.nil_append, List.append_nil, Nat.reduceAdd, Nat.reduceSub, Nat.zero_add, ↓evalE_popAt, ↓evalI_range1, ↓evalI_range2, ↓evalE_mul, ↓evalE_mod, ↓evalE_fdiv, ↓evalE_pow, evalSs, evalS, evalE, evalEs, evalT, evalI, evalO, evalC, SRes.seq_next, SRes.seq_ret, SRes.seq_err, SRes.seq_brk, SRes.seq_cnt, SRes.seq_stuck, Res.bind_ok, Res.bind_err, Res.bind_stuck, Res.st_ok, Res.st_err, Res.st_stuck, ofO_some, ofO_none, asP_d, getV_z, getV_s, Option.bind_some, Option.map_some, Option.bind_none, Option.map_none, biP, on1, ints2, unD, mkL_f, mkL_t, plain_d, truthP, List.set_cons_zero, List.set_cons_succ, ofOS, unpackV, setAll, setAllD, bindT, ite_tru, ite_fls, if_true, if_false, reduceIte, Bool.false_eq_true, Bool.not_true, Bool.not_false, retv_ok, isi_int, isi_bool, isi_tup, bLen, seqV, seqP_t, seqP_l, lstP, intsV, eq_i, ne_i, le_i, lt_i, gt_i, ge_i, add_i, sub_i, itemsOf, enumOf, Int.cast_ofNat_Int, Int.natCast_one, List.length_map, Int.reduceEq, Int.reduceLT, Int.reduceLE, e1, e2, ef, w0', w1', w5', w6', decide_true, decide_false, e3, eg]
          exact tail p3 (by omega) hway hf1 hf (by omega) (by omega) _ _ _ _ _ _ _
theorem any_i (d : Nat) {R : Sto} (hR : NB R) (p : Pool) {a m : Nat} (ha : 1 ≤ a) (ha2 : a ≤ 40) (hm : 1 ≤ m) (hm2 : m ≤ 200) : ∃ n ls p', WebOk n ls ∧ ls.length ≤ 2000 ∧ callF T wn (d + 7) "_law_web_any" [.ref 1, .d (.int a), .d (.int m)] (pst p ++ R) = .ok (.d (web n ls)) (pst p' ++ R) := by
  have := draw_i (wn := wn) t.p (d + 5) hR p (n := 6) (by decide) (by decide)
  simp only [Int.cast_ofNat_Int] at this
  obtain ⟨u, p1, hu, e1⟩ := this
  rw [callF_eq t.any rfl, C.t__law_web_any, pst_len]
  simp only [startL, List.map_cons, List.map_nil, List.length_cons, List.length_nil, List.replicate, List.replicate_succ, List.replicate_zero, List.cons_append, List.nil_append, List.append_nil, Nat.reduceAdd, Nat.reduceSub, Nat.zero_add, ↓evalE_popAt, ↓evalI_range1, ↓evalI_range2, ↓evalE_mul, ↓evalE_mod, ↓evalE_fdiv, ↓evalE_pow, evalSs, evalS, evalE, evalEs, evalT, evalI, evalO, evalC, SRes.seq_next, SRes.seq_ret, SRes.seq_err, SRes.seq_brk, SRes.seq_cnt, SRes.seq_stuck, Res.bind_ok, Res.bind_err, Res.bind_stuck, Res.st_ok, Res.st_err, Res.st_stuck, ofO_some, ofO_none, asP_d, getV_z, getV_s, Option.bind_some, Option.map_some, Option.bind_none, Option.map_none, biP, on1, ints2, unD, mkL_f, mkL_t, plain_d, truthP, List.set_cons_zero, List.set_cons_succ, ofOS, unpackV, setAll, setAllD, bindT, ite_tru, ite_fls, if_true, if_false, reduceIte, Bool.false_eq_true, Bool.not_true, Bool.not_false, retv_ok, isi_int, isi_bool, isi_tup, bLen, seqV, seqP_t, seqP_l, lstP, intsV, eq_i, ne_i, le_i, lt_i, gt_i, ge_i, add_i, sub_i, itemsOf, enumOf, Int.cast_ofNat_Int, Int.natCast_one, List.length_map, Int.reduceEq, Int.reduceLT, Int.reduceLE, e1]
  by_cases u0 : (u : Int) = 0
  · obtain ⟨n, ls, p2, hw, hl, e2⟩ := rims_i (wn := wn) t d hR p1
    refine ⟨n, ls, p2, hw, hl, ?_⟩
    simp only [u0, decide_true, ↓evalE_popAt, ↓evalI_range1, ↓evalI_range2, ↓evalE_mul, ↓evalE_mod, ↓evalE_fdiv, ↓evalE_pow, evalSs, evalS, evalE, evalEs, evalT, evalI, evalO, evalC, SRes.seq_next, SRes.seq_ret, SRes.seq_err, SRes.seq_brk, SRes.seq_cnt, SRes.seq_stuck, Res.bind_ok, Res.bind_err, Res.bind_stuck, Res.st_ok, Res.st_err, Res.st_stuck, ofO_some, ofO_none, asP_d, getV_z, getV_s, Option.bind_some, Option.map_some, Option.bind_none, Option.map_none, biP, on1, ints2, unD, mkL_f, mkL_t, plain_d, truthP, List.set_cons_zero, List.set_cons_succ, ofOS, unpackV, setAll, setAllD, bindT, ite_tru, ite_fls, if_true, if_false, reduceIte, Bool.false_eq_true, Bool.not_true, Bool.not_false, retv_ok, e2]
    exact ret_p (cl_pst hR p2) (pst_len p2 R).symm _
  · obtain ⟨v, p2, hv, e2⟩ := draw_i (wn := wn) t.p (d + 5) hR p1 (n := a) (by omega) (by omega)
    have ev : (1 : Int) + (v : Int) = ((1 + v : Nat) : Int) := by omega
    obtain ⟨ls, p3, hw, _, hl, e3⟩ := drawn_i (wn := wn) t.p (d + 2) hR p2 (n := 1 + v) (m := m) (f := a) (by omega) (by omega) hm hm2 (by omega)
    refine ⟨1 + v, ls, p3, hw, by omega, ?_⟩
    simp only [u0, decide_false, ↓evalE_popAt, ↓evalI_range1, ↓evalI_range2, ↓evalE_mul, ↓evalE_mod, ↓evalE_fdiv, ↓evalE_pow, evalSs, evalS, evalE, evalEs, evalT, evalI, evalO, evalC, SRes.seq_next, SRes.seq_ret, SRes.seq_err, SRes.seq_brk, SRes.seq_cnt, SRes.seq_stuck, Res.bind_ok, Res.bind_err, Res.bind_stuck, Res.st_ok, Res.st_err, Res.st_stuck, ofO_some, ofO_none, asP_d, getV_z, getV_s, Option.bind_some, Option.map_some, Option.bind_none, Option.map_none, biP, on1, ints2, unD, mkL_f, mkL_t, plain_d, truthP, List.set_cons_zero, List.set_cons_succ, ofOS, unpackV, setAll, setAllD, bindT, ite_tru, ite_fls, if_true, if_false, reduceIte, Bool.false_eq_true, Bool.not_true, Bool.not_false, retv_ok, isi_int, isi_bool, isi_tup, bLen, seqV, seqP_t, seqP_l, lstP, intsV, eq_i, ne_i, le_i, lt_i, gt_i, ge_i, add_i, sub_i, itemsOf, enumOf, Int.cast_ofNat_Int, Int.natCast_one, List.length_map, Int.reduceEq, Int.reduceLT, Int.reduceLE, e2, ev, e3]
    exact ret_p (cl_pst hR p3) (pst_len p3 R).symm _
end EvP
end
section
set_option maxRecDepth 100000
set_option maxHeartbeats 2000000
/-! EvP13: the pool at first, drawn loans, written numbers. -/
namespace EvP
open Ev PySem L2 MW
theorem strOk_of (s : String) : PyData.strOk (Str.ofString s) = true := by
  rw [Str.ofString_eq_toList]
  unfold PyData.strOk
  rw [List.all_toArray, List.all_eq_true]
  intro x hx
  obtain ⟨c, _, rfl⟩ := List.mem_map.mp hx
  have v : c.toNat < 55296 ∨ (57343 < c.toNat ∧ c.toNat < 1114112) := c.valid
  exact decide_eq_true (by omega)
theorem repr_i {i : Int} (h : -1000000000 ≤ i) (h2 : i ≤ 1000000000) (S : Sto) : bRepr S (.d (.int i)) = .ok (.d (.str (Str.ofString (toString i)))) S := by
  have lg : i.natAbs.log2 < 1920 := by
    by_cases z : i.natAbs = 0
    · rw [z]; decide
    · refine (Nat.log2_lt z).mpr (Nat.lt_of_lt_of_le (m := 2 ^ 40) (by omega) (Nat.pow_le_pow_right (by decide) (by decide)))
  have len : (Str.ofString (toString i)).length ≤ 1921 := by
    rw [PySem.ofString_length]; exact PySem.int_text_length_le (k := 1920) (by decide) lg
  have c : PyData.showable (.int i) = true ∧ PyData.hasDict (.int i) = false ∧ PyData.depth (.int i) ≤ 64 ∧ (PyData.shown (.int i)).length ≤ sizeLine := by
    refine ⟨by simp [PyData.showable, lg], by simp [PyData.hasDict], by simp [PyData.depth], ?_⟩
    rw [PyData.shown]
    refine Nat.le_trans len ?_
    decide
  unfold bRepr
  simp only [asP_d]
  rw [if_pos c, PyData.shown]
theorem eqs_i (s : String) : cmpP .eq (.str (Str.ofString s)) (.str (Str.ofString s)) = some true := by
  show (if SeqAt.shaped (.str (Str.ofString s)) = true ∧ SeqAt.shaped (.str (Str.ofString s)) = true then some (PyData.eqv (.str (Str.ofString s)) (.str (Str.ofString s))) else none) = _
  have sh : SeqAt.shaped (.str (Str.ofString s)) = true := by
    unfold SeqAt.shaped
    rw [PyData.canLay0, strOk_of, PyData.depth]
    rfl
  rw [if_pos ⟨sh, sh⟩, PyData.eqv]
  simp
theorem nes_i (s : String) : cmpP .ne (.str (Str.ofString s)) (.str (Str.ofString s)) = some false := by
  show (if SeqAt.shaped (.str (Str.ofString s)) = true ∧ SeqAt.shaped (.str (Str.ofString s)) = true then some (!PyData.eqv (.str (Str.ofString s)) (.str (Str.ofString s))) else none) = _
  have sh : SeqAt.shaped (.str (Str.ofString s)) = true := by
    unfold SeqAt.shaped
    rw [PyData.canLay0, strOk_of, PyData.depth]
    rfl
  rw [if_pos ⟨sh, sh⟩, PyData.eqv]
  simp
variable {T : String → Option Fn} {wn : Nat}
theorem pool_i (hT : T "_law_pool" = some C.t__law_pool) (d : Nat) (ns : List Int) : ∃ p, callF T wn (d + 1) "_law_pool" [.d (.list (ns.map .int))] [] = .ok (.ref 1) (pst p) := by
  have k2 := mul_l (a := 2) (Sm.of (by decide) (by decide))
  have k4 := mul_r (b := 48271) (Sm.of (by decide) (by decide))
  have m1 := mod_i (b := 2147483629) (by decide)
  have ct : cutP (ns.map .int) (some 1) none = (ns.drop 1).map .int := by
    unfold cutP
    rw [show (some (1 : Int)) = some ((1 : Nat) : Int) from rfl, HT.sIx_nat, HT.sIx_none, List.length_map, ← List.map_drop, ← List.map_take]
    congr 1
    cases ns with
    | nil => rfl
    | cons x r => simp
  have split : C.t__law_pool.body = C.t__law_pool.body.take 1 ++ C.t__law_pool.body.drop 1 := (List.take_append_drop 1 _).symm
  rw [callF_eq hT rfl, split, evalSs_append]
  have fin : ∀ (size a b c : Int), ∃ p, outF true 0 (.ret (.ref 1) [.lst ((ns.drop 1).map .int), .box [.d (.int a), .d (.int b), .ref 0]]) = .ok (.ref 1) (pst p) := fun size a b c => ⟨⟨a, b, ns.drop 1⟩, rfl⟩
  have body : ∀ first : Int, ∃ p, outF true 0 (evalSs (callF T wn d) wn (C.t__law_pool.body.drop 1) [some (.d (.list (ns.map .int))), some (.d (.int first)), none] []) = .ok (.ref 1) (pst p) := by
    intro first
    simp only [C.t__law_pool, List.drop_succ_cons, List.drop_zero]
    by_cases c1 : 0 ≤ first
    · simp only [startL, List.map_cons, List.map_nil, List.length_cons, List.length_nil, List.replicate, List.replicate_succ, List.replicate_zero, List.cons_append, List.nil_append, List.append_nil, Nat.reduceAdd, Nat.reduceSub, Nat.zero_add, ↓evalE_popAt, ↓evalI_range1, ↓evalI_range2, ↓evalE_mul, ↓evalE_mod, ↓evalE_fdiv, ↓evalE_pow, evalSs, evalS, evalE, evalEs, evalT, evalI, evalO, evalC, SRes.seq_next, SRes.seq_ret, SRes.seq_err, SRes.seq_brk, SRes.seq_cnt, SRes.seq_stuck, Res.bind_ok, Res.bind_err, Res.bind_stuck, Res.st_ok, Res.st_err, Res.st_stuck, ofO_some, ofO_none, asP_d, getV_z, getV_s, Option.bind_some, Option.map_some, Option.bind_none, Option.map_none, biP, on1, ints2, unD, mkL_f, mkL_t, plain_d, truthP, List.set_cons_zero, List.set_cons_succ, ofOS, unpackV, setAll, setAllD, bindT, ite_tru, ite_fls, if_true, if_false, reduceIte, Bool.false_eq_true, Bool.not_true, Bool.not_false, retv_ok, isi_int, isi_bool, isi_tup, bLen, seqV, seqP_t, seqP_l, lstP, intsV, eq_i, ne_i, le_i, lt_i, gt_i, ge_i, add_i, sub_i, itemsOf, enumOf, Int.cast_ofNat_Int, Int.natCast_one, List.length_map, Int.reduceEq, Int.reduceLT, Int.reduceLE, c1, decide_true, k2]
      by_cases c2 : (10 : Int) ^ 18 ≤ 2 * first
      · simp only [pow_18, c2, decide_true, ↓evalE_popAt, ↓evalI_range1, ↓evalI_range2, ↓evalE_mul, ↓evalE_mod, ↓evalE_fdiv, ↓evalE_pow, evalSs, evalS, evalE, evalEs, evalT, evalI, evalO, evalC, SRes.seq_next, SRes.seq_ret, SRes.seq_err, SRes.seq_brk, SRes.seq_cnt, SRes.seq_stuck, Res.bind_ok, Res.bind_err, Res.bind_stuck, Res.st_ok, Res.st_err, Res.st_stuck, ofO_some, ofO_none, asP_d, getV_z, getV_s, Option.bind_some, Option.map_some, Option.bind_none, Option.map_none, biP, on1, ints2, unD, mkL_f, mkL_t, plain_d, truthP, List.set_cons_zero, List.set_cons_succ, ofOS, unpackV, setAll, setAllD, bindT, ite_tru, ite_fls, if_true, if_false, reduceIte, Bool.false_eq_true, Bool.not_true, Bool.not_false, retv_ok, isi_int, isi_bool, isi_tup, bLen, seqV, seqP_t, seqP_l, lstP, intsV, eq_i, ne_i, le_i, lt_i, gt_i, ge_i, add_i, sub_i, itemsOf, enumOf, Int.cast_ofNat_Int, Int.natCast_one, List.length_map, Int.reduceEq, Int.reduceLT, Int.reduceLE, k4, bInt, m1, ct, bNew]
        exact fin 0 _ _ 0
      · simp only [pow_18, c2, decide_false, ↓evalE_popAt, ↓evalI_range1, ↓evalI_range2, ↓evalE_mul, ↓evalE_mod, ↓evalE_fdiv, ↓evalE_pow, evalSs, evalS, evalE, evalEs, evalT, evalI, evalO, evalC, SRes.seq_next, SRes.seq_ret, SRes.seq_err, SRes.seq_brk, SRes.seq_cnt, SRes.seq_stuck, Res.bind_ok, Res.bind_err, Res.bind_stuck, Res.st_ok, Res.st_err, Res.st_stuck, ofO_some, ofO_none, asP_d, getV_z, getV_s, Option.bind_some, Option.map_some, Option.bind_none, Option.map_none, biP, on1, ints2, unD, mkL_f, mkL_t, plain_d, truthP, List.set_cons_zero, List.set_cons_succ, ofOS, unpackV, setAll, setAllD, bindT, ite_tru, ite_fls, if_true, if_false, reduceIte, Bool.false_eq_true, Bool.not_true, Bool.not_false, retv_ok, isi_int, isi_bool, isi_tup, bLen, seqV, seqP_t, seqP_l, lstP, intsV, eq_i, ne_i, le_i, lt_i, gt_i, ge_i, add_i, sub_i, itemsOf, enumOf, Int.cast_ofNat_Int, Int.natCast_one, List.length_map, Int.reduceEq, Int.reduceLT, Int.reduceLE, k4, bInt, m1, ct, bNew]
        exact fin 0 _ _ 0
    · simp only [startL, List.map_cons, List.map_nil, List.length_cons, List.length_nil, List.replicate, List.replicate_succ, List.replicate_zero, List.cons_append, List.nil_append, List.append_nil, Nat.reduceAdd, Nat.reduceSub, Nat.zero_add, ↓evalE_popAt, ↓evalI_range1, ↓evalI_range2, ↓evalE_mul, ↓evalE_mod, ↓evalE_fdiv, ↓evalE_pow, evalSs, evalS, evalE, evalEs, evalT, evalI, evalO, evalC, SRes.seq_next, SRes.seq_ret, SRes.seq_err, SRes.seq_brk, SRes.seq_cnt, SRes.seq_stuck, Res.bind_ok, Res.bind_err, Res.bind_stuck, Res.st_ok, Res.st_err, Res.st_stuck, ofO_some, ofO_none, asP_d, getV_z, getV_s, Option.bind_some, Option.map_some, Option.bind_none, Option.map_none, biP, on1, ints2, unD, mkL_f, mkL_t, plain_d, truthP, List.set_cons_zero, List.set_cons_succ, ofOS, unpackV, setAll, setAllD, bindT, ite_tru, ite_fls, if_true, if_false, reduceIte, Bool.false_eq_true, Bool.not_true, Bool.not_false, retv_ok, isi_int, isi_bool, isi_tup, bLen, seqV, seqP_t, seqP_l, lstP, intsV, eq_i, ne_i, le_i, lt_i, gt_i, ge_i, add_i, sub_i, itemsOf, enumOf, Int.cast_ofNat_Int, Int.natCast_one, List.length_map, Int.reduceEq, Int.reduceLT, Int.reduceLE, c1, decide_false, k2]
      by_cases c2 : (10 : Int) ^ 18 ≤ -1 - 2 * first
      · simp only [pow_18, c2, decide_true, ↓evalE_popAt, ↓evalI_range1, ↓evalI_range2, ↓evalE_mul, ↓evalE_mod, ↓evalE_fdiv, ↓evalE_pow, evalSs, evalS, evalE, evalEs, evalT, evalI, evalO, evalC, SRes.seq_next, SRes.seq_ret, SRes.seq_err, SRes.seq_brk, SRes.seq_cnt, SRes.seq_stuck, Res.bind_ok, Res.bind_err, Res.bind_stuck, Res.st_ok, Res.st_err, Res.st_stuck, ofO_some, ofO_none, asP_d, getV_z, getV_s, Option.bind_some, Option.map_some, Option.bind_none, Option.map_none, biP, on1, ints2, unD, mkL_f, mkL_t, plain_d, truthP, List.set_cons_zero, List.set_cons_succ, ofOS, unpackV, setAll, setAllD, bindT, ite_tru, ite_fls, if_true, if_false, reduceIte, Bool.false_eq_true, Bool.not_true, Bool.not_false, retv_ok, isi_int, isi_bool, isi_tup, bLen, seqV, seqP_t, seqP_l, lstP, intsV, eq_i, ne_i, le_i, lt_i, gt_i, ge_i, add_i, sub_i, itemsOf, enumOf, Int.cast_ofNat_Int, Int.natCast_one, List.length_map, Int.reduceEq, Int.reduceLT, Int.reduceLE, k4, bInt, m1, ct, bNew]
        exact fin 0 _ _ 0
      · simp only [pow_18, c2, decide_false, ↓evalE_popAt, ↓evalI_range1, ↓evalI_range2, ↓evalE_mul, ↓evalE_mod, ↓evalE_fdiv, ↓evalE_pow, evalSs, evalS, evalE, evalEs, evalT, evalI, evalO, evalC, SRes.seq_next, SRes.seq_ret, SRes.seq_err, SRes.seq_brk, SRes.seq_cnt, SRes.seq_stuck, Res.bind_ok, Res.bind_err, Res.bind_stuck, Res.st_ok, Res.st_err, Res.st_stuck, ofO_some, ofO_none, asP_d, getV_z, getV_s, Option.bind_some, Option.map_some, Option.bind_none, Option.map_none, biP, on1, ints2, unD, mkL_f, mkL_t, plain_d, truthP, List.set_cons_zero, List.set_cons_succ, ofOS, unpackV, setAll, setAllD, bindT, ite_tru, ite_fls, if_true, if_false, reduceIte, Bool.false_eq_true, Bool.not_true, Bool.not_false, retv_ok, isi_int, isi_bool, isi_tup, bLen, seqV, seqP_t, seqP_l, lstP, intsV, eq_i, ne_i, le_i, lt_i, gt_i, ge_i, add_i, sub_i, itemsOf, enumOf, Int.cast_ofNat_Int, Int.natCast_one, List.length_map, Int.reduceEq, Int.reduceLT, Int.reduceLE, k4, bInt, m1, ct, bNew]
        exact fin 0 _ _ 0
  show ∃ p, outF true 0 _ = _
  generalize C.t__law_pool.body.drop 1 = tl at body ⊢
  simp only [C.t__law_pool, List.take_succ_cons, List.take_zero]
  simp only [startL, List.map_cons, List.map_nil, List.length_cons, List.length_nil, List.replicate, List.replicate_succ, List.replicate_zero, List.cons_append, List.nil_append, List.append_nil, Nat.reduceAdd, Nat.reduceSub, Nat.zero_add, ↓evalE_popAt, ↓evalI_range1, ↓evalI_range2, ↓evalE_mul, ↓evalE_mod, ↓evalE_fdiv, ↓evalE_pow, evalSs, evalS, evalE, evalEs, evalT, evalI, evalO, evalC, SRes.seq_next, SRes.seq_ret, SRes.seq_err, SRes.seq_brk, SRes.seq_cnt, SRes.seq_stuck, Res.bind_ok, Res.bind_err, Res.bind_stuck, Res.st_ok, Res.st_err, Res.st_stuck, ofO_some, ofO_none, asP_d, getV_z, getV_s, Option.bind_some, Option.map_some, Option.bind_none, Option.map_none, biP, on1, ints2, unD, mkL_f, mkL_t, plain_d, truthP, List.set_cons_zero, List.set_cons_succ, ofOS, unpackV, setAll, setAllD, bindT, ite_tru, ite_fls, if_true, if_false, reduceIte, Bool.false_eq_true, Bool.not_true, Bool.not_false, retv_ok, isi_int, isi_bool, isi_tup, bLen, seqV, seqP_t, seqP_l, lstP, intsV, eq_i, ne_i, le_i, lt_i, gt_i, ge_i, add_i, sub_i, itemsOf, enumOf, Int.cast_ofNat_Int, Int.natCast_one, List.length_map, Int.reduceEq, Int.reduceLT, Int.reduceLE]
  by_cases c0 : (0 : Int) < (ns.length : Nat)
  · obtain ⟨x, r, rfl⟩ : ∃ x r, ns = x :: r := by
      cases ns with
      | nil => simp at c0
      | cons x r => exact ⟨x, r, rfl⟩
    have i0 : ixP (.list ((x :: r).map .int)) (.int 0) = some (.int x) := atI_nat (i := 0) rfl
    simp only [c0, decide_true, ↓evalE_popAt, ↓evalI_range1, ↓evalI_range2, ↓evalE_mul, ↓evalE_mod, ↓evalE_fdiv, ↓evalE_pow, evalSs, evalS, evalE, evalEs, evalT, evalI, evalO, evalC, SRes.seq_next, SRes.seq_ret, SRes.seq_err, SRes.seq_brk, SRes.seq_cnt, SRes.seq_stuck, Res.bind_ok, Res.bind_err, Res.bind_stuck, Res.st_ok, Res.st_err, Res.st_stuck, ofO_some, ofO_none, asP_d, getV_z, getV_s, Option.bind_some, Option.map_some, Option.bind_none, Option.map_none, biP, on1, ints2, unD, mkL_f, mkL_t, plain_d, truthP, List.set_cons_zero, List.set_cons_succ, ofOS, unpackV, setAll, setAllD, bindT, ite_tru, ite_fls, if_true, if_false, reduceIte, Bool.false_eq_true, Bool.not_true, Bool.not_false, retv_ok, i0, bInt]
    exact body x
  · simp only [c0, decide_false, ↓evalE_popAt, ↓evalI_range1, ↓evalI_range2, ↓evalE_mul, ↓evalE_mod, ↓evalE_fdiv, ↓evalE_pow, evalSs, evalS, evalE, evalEs, evalT, evalI, evalO, evalC, SRes.seq_next, SRes.seq_ret, SRes.seq_err, SRes.seq_brk, SRes.seq_cnt, SRes.seq_stuck, Res.bind_ok, Res.bind_err, Res.bind_stuck, Res.st_ok, Res.st_err, Res.st_stuck, ofO_some, ofO_none, asP_d, getV_z, getV_s, Option.bind_some, Option.map_some, Option.bind_none, Option.map_none, biP, on1, ints2, unD, mkL_f, mkL_t, plain_d, truthP, List.set_cons_zero, List.set_cons_succ, ofOS, unpackV, setAll, setAllD, bindT, ite_tru, ite_fls, if_true, if_false, reduceIte, Bool.false_eq_true, Bool.not_true, Bool.not_false, retv_ok]
    exact body 0
theorem loans_i (t : TP T) (o : TO T) (hT : T "_law_term_loans" = some C.t__law_term_loans) (d : Nat) {R : Sto} (hR : NB R) (p : Pool) {n : Nat} {ls : List Wy} (hw : WebOk n ls) (hl : ls.length ≤ 2000) :
    ∃ k L j p', LoansOk k L j ∧ callF T wn (d + 4) "_law_term_loans" [.ref 1, .d (web n ls)] (pst p ++ R) = .ok (.d (loans k L j)) (pst p' ++ R) := by
  have D : ∀ (m : Nat) (p : Pool), 0 < m → m < 1000 → ∃ v p', v < m ∧ callF T wn (d + 3) "_law_draw" [.ref 1, .d (.int m)] (pst p ++ R) = .ok (.d (.int (v : Nat))) (pst p' ++ R) := fun m p h h2 => draw_i t (d + 2) hR p h (by omega)
  have Pk : ∀ (ps : List PyData) (p : Pool), 0 < ps.length → ps.length < 1000 → ∃ x p', x ∈ ps ∧ callF T wn (d + 3) "_law_pick" [.ref 1, .d (.list ps)] (pst p ++ R) = .ok (.d x) (pst p' ++ R) := fun ps p h h2 => pick_i t (d + 1) hR p h (by omega)
  have lt : ls.length < LIM := by unfold LIM; omega
  have lt2 : (sortU (least ls)).length < LIM := by rw [sortU_perm.length_eq]; exact Nat.lt_of_le_of_lt (Nat.le_trans kr_sub.length_le (Nat.le_of_eq sortD_perm.length_eq)) lt
  -- the end of it
  have tail : ∀ (k L : Nat) (p : Pool) (j2 : Option DV), 1 ≤ k → k ≤ 20 → 1 ≤ L → L ≤ 200 → ∃ k' L' j p', LoansOk k' L' j ∧ outF false (R.length + 2) (evalSs (callF T wn (d + 3)) wn (C.t__law_term_loans.body.drop 2) [some (.ref 1), some (.d (web n ls)), j2, some (.d (.int (k : Nat))), some (.d (.int (L : Nat)))] (pst p ++ R)) = .ok (.d (loans k' L' j)) (pst p' ++ R) := by
    intro k L p j2 k1 k20 l1 l200
    obtain ⟨v, p1, hv, e1⟩ := D (L + 1) p (by omega) (by omega)
    rw [show ((L + 1 : Nat) : Int) = (L : Int) + 1 by omega] at e1
    have em : (if ((mx (least ls) : Nat) : Int) < (L : Int) then ((mx (least ls) : Nat) : Int) else (L : Int)) = ((min L (mx (least ls)) : Nat) : Int) := min_i _ _
    obtain ⟨x, p2, hx, e2⟩ := Pk [.int 0, .int (L : Int), .int ((min L (mx (least ls)) : Nat) : Int), .int (v : Nat)] p1 (by simp) (by simp)
    have : ∃ j : Nat, j ≤ L ∧ x = .int j := by
      simp only [List.mem_cons, List.not_mem_nil, or_false] at hx
      rcases hx with e | e | e | e
      · exact ⟨0, by omega, e⟩
      · exact ⟨L, by omega, e⟩
      · exact ⟨_, Nat.min_le_left _ _, e⟩
      · exact ⟨v, by omega, e⟩
    obtain ⟨j, hj, rfl⟩ := this
    refine ⟨k, L, j, p2, ⟨k1, k20, l1, l200, hj⟩, ?_⟩
    simp only [C.t__law_term_loans, List.drop_succ_cons, List.drop_zero]
    have mp : mx (sortU (least ls)) = mx (least ls) := mx_perm sortU_perm
    simp only [startL, List.map_cons, List.map_nil, List.length_cons, List.length_nil, List.replicate, List.replicate_succ, List.replicate_zero, List.cons_append, List.nil_append, List.append_nil, Nat.reduceAdd, Nat.reduceSub, Nat.zero_add, ↓evalE_popAt, ↓evalI_range1, ↓evalI_range2, ↓evalE_mul, ↓evalE_mod, ↓evalE_fdiv, ↓evalE_pow, evalSs, evalS, evalE, evalEs, evalT, evalI, evalO, evalC, SRes.seq_next, SRes.seq_ret, SRes.seq_err, SRes.seq_brk, SRes.seq_cnt, SRes.seq_stuck, Res.bind_ok, Res.bind_err, Res.bind_stuck, Res.st_ok, Res.st_err, Res.st_stuck, ofO_some, ofO_none, asP_d, getV_z, getV_s, Option.bind_some, Option.map_some, Option.bind_none, Option.map_none, biP, on1, ints2, unD, mkL_f, mkL_t, plain_d, truthP, List.set_cons_zero, List.set_cons_succ, ofOS, unpackV, setAll, setAllD, bindT, ite_tru, ite_fls, if_true, if_false, reduceIte, Bool.false_eq_true, Bool.not_true, Bool.not_false, retv_ok, isi_int, isi_bool, isi_tup, bLen, seqV, seqP_t, seqP_l, lstP, intsV, eq_i, ne_i, le_i, lt_i, gt_i, ge_i, add_i, sub_i, itemsOf, enumOf, Int.cast_ofNat_Int, Int.natCast_one, List.length_map, Int.reduceEq, Int.reduceLT, Int.reduceLE, law_least_i o (cl_pst hR p) (d + 1) hw.below (by have := hw.n40; omega) lt, law_longest_i o (cl_pst hR p) (d + 2) lt2, mp, em, e1, e2]
    exact ret_p (cl_pst hR p2) (pst_len p2 R).symm _
  obtain ⟨k0, p1, hk0, e1⟩ := D 3 p (by decide) (by decide)
  obtain ⟨x, p2, hx, e2⟩ := Pk [.int 2, .int 3, .int 8] p1 (by decide) (by decide)
  have : ∃ c : Nat, 1 ≤ c ∧ c ≤ 8 ∧ x = .int c := by
    simp only [List.mem_cons, List.not_mem_nil, or_false] at hx
    rcases hx with e | e | e
    · exact ⟨2, by omega, by omega, e⟩
    · exact ⟨3, by omega, by omega, e⟩
    · exact ⟨8, by omega, by omega, e⟩
  obtain ⟨c, hc1, hc8, rfl⟩ := this
  obtain ⟨l0, p3, hl0, e3⟩ := D c p2 (by omega) (by omega)
  obtain ⟨u, p4, hu, e4⟩ := D 6 p3 (by decide) (by decide)
  simp only [Int.cast_ofNat_Int] at e1 e4
  have ek : (1 : Int) + (k0 : Int) = ((1 + k0 : Nat) : Int) := by omega
  have el : (1 : Int) + (l0 : Int) = ((1 + l0 : Nat) : Int) := by omega
  have split : C.t__law_term_loans.body = C.t__law_term_loans.body.take 2 ++ C.t__law_term_loans.body.drop 2 := (List.take_append_drop 2 _).symm
  rw [callF_eq hT rfl, split, evalSs_append, pst_len]
  generalize C.t__law_term_loans.body.drop 2 = tl at tail ⊢
  simp only [C.t__law_term_loans, List.take_succ_cons, List.take_zero]
  simp only [startL, List.map_cons, List.map_nil, List.length_cons, List.length_nil, List.replicate, List.replicate_succ, List.replicate_zero, List.cons_append, List.nil_append, List.append_nil, Nat.reduceAdd, Nat.reduceSub, Nat.zero_add, ↓evalE_popAt, ↓evalI_range1, ↓evalI_range2, ↓evalE_mul, ↓evalE_mod, ↓evalE_fdiv, ↓evalE_pow, evalSs, evalS, evalE, evalEs, evalT, evalI, evalO, evalC, SRes.seq_next, SRes.seq_ret, SRes.seq_err, SRes.seq_brk, SRes.seq_cnt, SRes.seq_stuck, Res.bind_ok, Res.bind_err, Res.bind_stuck, Res.st_ok, Res.st_err, Res.st_stuck, ofO_some, ofO_none, asP_d, getV_z, getV_s, Option.bind_some, Option.map_some, Option.bind_none, Option.map_none, biP, on1, ints2, unD, mkL_f, mkL_t, plain_d, truthP, List.set_cons_zero, List.set_cons_succ, ofOS, unpackV, setAll, setAllD, bindT, ite_tru, ite_fls, if_true, if_false, reduceIte, Bool.false_eq_true, Bool.not_true, Bool.not_false, retv_ok, isi_int, isi_bool, isi_tup, bLen, seqV, seqP_t, seqP_l, lstP, intsV, eq_i, ne_i, le_i, lt_i, gt_i, ge_i, add_i, sub_i, itemsOf, enumOf, Int.cast_ofNat_Int, Int.natCast_one, List.length_map, Int.reduceEq, Int.reduceLT, Int.reduceLE, e1, e2, e3, e4, ek, el]
  by_cases u0 : (u : Int) = 0
  · obtain ⟨g, p5, hg, e5⟩ := D 20 p4 (by decide) (by decide)
    simp only [Int.cast_ofNat_Int] at e5
    obtain ⟨x, p6, hx, e6⟩ := Pk [.int 20, .int (1 + (g : Int))] p5 (by simp) (by simp)
    obtain ⟨h, p7, hh, e7⟩ := D 200 p6 (by decide) (by decide)
    simp only [Int.cast_ofNat_Int] at e7
    obtain ⟨y, p8, hy, e8⟩ := Pk [.int 200, .int (1 + (h : Int))] p7 (by simp) (by simp)
    have hx2 : ∃ c : Nat, 1 ≤ c ∧ c ≤ 20 ∧ x = .int c := by
      simp only [List.mem_cons, List.not_mem_nil, or_false] at hx
      rcases hx with e | e
      · exact ⟨20, by omega, by omega, e⟩
      · exact ⟨1 + g, by omega, by omega, by rw [e]; congr 1⟩
    have hy2 : ∃ c : Nat, 1 ≤ c ∧ c ≤ 200 ∧ y = .int c := by
      simp only [List.mem_cons, List.not_mem_nil, or_false] at hy
      rcases hy with e | e
      · exact ⟨200, by omega, by omega, e⟩
      · exact ⟨1 + h, by omega, by omega, by rw [e]; congr 1⟩
    obtain ⟨k, hk1, hk2, rfl⟩ := hx2
    obtain ⟨L, hL1, hL2, rfl⟩ := hy2
    simp only [u0, decide_true, ↓evalE_popAt, ↓evalI_range1, ↓evalI_range2, ↓evalE_mul, ↓evalE_mod, ↓evalE_fdiv, ↓evalE_pow, evalSs, evalS, evalE, evalEs, evalT, evalI, evalO, evalC, SRes.seq_next, SRes.seq_ret, SRes.seq_err, SRes.seq_brk, SRes.seq_cnt, SRes.seq_stuck, Res.bind_ok, Res.bind_err, Res.bind_stuck, Res.st_ok, Res.st_err, Res.st_stuck, ofO_some, ofO_none, asP_d, getV_z, getV_s, Option.bind_some, Option.map_some, Option.bind_none, Option.map_none, biP, on1, ints2, unD, mkL_f, mkL_t, plain_d, truthP, List.set_cons_zero, List.set_cons_succ, ofOS, unpackV, setAll, setAllD, bindT, ite_tru, ite_fls, if_true, if_false, reduceIte, Bool.false_eq_true, Bool.not_true, Bool.not_false, retv_ok, isi_int, isi_bool, isi_tup, bLen, seqV, seqP_t, seqP_l, lstP, intsV, eq_i, ne_i, le_i, lt_i, gt_i, ge_i, add_i, sub_i, itemsOf, enumOf, Int.cast_ofNat_Int, Int.natCast_one, List.length_map, Int.reduceEq, Int.reduceLT, Int.reduceLE, e5, e6, e7, e8]
    exact tail k L p8 none hk1 hk2 hL1 hL2
  · simp only [u0, decide_false, ↓evalE_popAt, ↓evalI_range1, ↓evalI_range2, ↓evalE_mul, ↓evalE_mod, ↓evalE_fdiv, ↓evalE_pow, evalSs, evalS, evalE, evalEs, evalT, evalI, evalO, evalC, SRes.seq_next, SRes.seq_ret, SRes.seq_err, SRes.seq_brk, SRes.seq_cnt, SRes.seq_stuck, Res.bind_ok, Res.bind_err, Res.bind_stuck, Res.st_ok, Res.st_err, Res.st_stuck, ofO_some, ofO_none, asP_d, getV_z, getV_s, Option.bind_some, Option.map_some, Option.bind_none, Option.map_none, biP, on1, ints2, unD, mkL_f, mkL_t, plain_d, truthP, List.set_cons_zero, List.set_cons_succ, ofOS, unpackV, setAll, setAllD, bindT, ite_tru, ite_fls, if_true, if_false, reduceIte, Bool.false_eq_true, Bool.not_true, Bool.not_false, retv_ok]
    exact tail (1 + k0) (1 + l0) p4 none (by omega) (by omega) (by omega) (by omega)
end EvP
end
section
set_option maxRecDepth 100000
set_option maxHeartbeats 2000000
/-! EvP14: one place more (k47). -/
namespace EvP
open Ev PySem L2 MW
def rest (k j M : Nat) : Int := (k : Int) * (if (M : Int) - (j : Int) > 0 then (M : Int) - (j : Int) else 0)
theorem rest_nat (k j M : Nat) : rest k j M = ((k * (M - j) : Nat) : Int) := by
  unfold rest
  rw [Int.natCast_mul]
  congr 1
  split <;> omega
theorem rest_bound {k j M : Nat} (hk : k ≤ 20) (hM : M ≤ 8000) : 0 ≤ rest k j M ∧ rest k j M ≤ 160000 := by
  rw [rest_nat]
  have : k * (M - j) ≤ 20 * 8000 := Nat.mul_le_mul hk (by omega)
  omega
theorem rest_mono {k j M N : Nat} (h : M ≤ N) : rest k j M ≤ rest k j N := by
  rw [rest_nat, rest_nat]
  have : k * (M - j) ≤ k * (N - j) := Nat.mul_le_mul_left k (by omega)
  omega
theorem need_eq (k L j T' M : Nat) : need k L j T' M = (k : Int) * T' + (k : Int) * L + rest k j M := by
  unfold need rest
  rw [Int.mul_add, Int.mul_add]
  omega
structure T47 (T : String → Option Fn) : Prop where
  g : TGn T
  r : TR T
  o : TO T
  length : T "_law_web_length" = some C.t__law_web_length
  pool : T "_law_pool" = some C.t__law_pool
  loans : T "_law_term_loans" = some C.t__law_term_loans
  rest : T "_law_mid_rest" = some C.t__law_mid_rest
  mend : T "_law_mid_end" = some C.t__law_mid_end
  middle : T "_law_mid_middle" = some C.t__law_mid_middle
  between : T "_law_mid_between" = some C.t__law_mid_between
  law : T "law" = some C.t_law
theorem days_le_all {n : Nat} {ls : List Wy} (hw : WebOk n ls) (hl : ls.length ≤ 2000) : mx (least ls) ≤ 200 ∧ days (least ls) ≤ 400000 := by
  have hd : ∀ w, w ∈ least ls → w.2.2 ≤ 200 := fun w m => (hw.uv w (least_mem m)).2.2.2
  refine ⟨mx_le hd, Nat.le_trans (days_le hd) ?_⟩
  have : (least ls).length ≤ ls.length := Nat.le_trans kr_sub.length_le (Nat.le_of_eq sortD_perm.length_eq)
  exact Nat.le_trans (Nat.mul_le_mul_right 200 (Nat.le_trans this hl)) (by decide)
theorem lit_i {i : Int} {n : Nat} (h : i = (n : Int)) : (.int i : PyData) = .int (n : Nat) := by rw [h]
variable {T : String → Option Fn} {wn : Nat} (t : T47 T)
include t
theorem rest_i {S : Sto} (hS : Cl S) (d k j M : Nat) (hk : k ≤ 20) : callF T wn (d + 1) "_law_mid_rest" [.d (.int k), .d (.int j), .d (.int M)] S = .ok (.d (.int (rest k j M))) S := by
  have hm := mul_l (a := (k : Int)) (Sm.of (by omega) (by omega))
  rw [callF_eq t.rest rfl, C.t__law_mid_rest]
  simp only [startL, List.map_cons, List.map_nil, List.length_cons, List.length_nil, List.replicate, List.replicate_succ, List.replicate_zero, List.cons_append, List.nil_append, List.append_nil, Nat.reduceAdd, Nat.reduceSub, Nat.zero_add, ↓evalE_popAt, ↓evalI_range1, ↓evalI_range2, ↓evalE_mul, ↓evalE_mod, ↓evalE_fdiv, ↓evalE_pow, evalSs, evalS, evalE, evalEs, evalT, evalI, evalO, evalC, SRes.seq_next, SRes.seq_ret, SRes.seq_err, SRes.seq_brk, SRes.seq_cnt, SRes.seq_stuck, Res.bind_ok, Res.bind_err, Res.bind_stuck, Res.st_ok, Res.st_err, Res.st_stuck, ofO_some, ofO_none, asP_d, getV_z, getV_s, Option.bind_some, Option.map_some, Option.bind_none, Option.map_none, biP, on1, ints2, unD, mkL_f, mkL_t, plain_d, truthP, List.set_cons_zero, List.set_cons_succ, ofOS, unpackV, setAll, setAllD, bindT, ite_tru, ite_fls, if_true, if_false, reduceIte, Bool.false_eq_true, Bool.not_true, Bool.not_false, retv_ok, isi_int, isi_bool, isi_tup, bLen, seqV, seqP_t, seqP_l, lstP, intsV, eq_i, ne_i, le_i, lt_i, gt_i, ge_i, add_i, sub_i, itemsOf, enumOf, Int.cast_ofNat_Int, Int.natCast_one, List.length_map, Int.reduceEq, Int.reduceLT, Int.reduceLE, hm, retv_ok hS]
  rfl
theorem mid_end_i (d : Nat) {R : Sto} (hR : NB R) (p : Pool) {n : Nat} {ls : List Wy} (hw : WebOk n ls) (hn : n < 40) (hl : ls.length ≤ 2000) {k L j : Nat} (hk : LoansOk k L j) :
    ∃ p', callF T wn (d + 10) "_law_mid_end" [.ref 1, .d (web n ls), .d (loans k L j)] (pst p ++ R) = .ok (.d (.bool true)) (pst p' ++ R) := by
  have D : ∀ (m : Nat) (p : Pool), 0 < m → m < 1000 → ∃ v p', v < m ∧ callF T wn (d + 9) "_law_draw" [.ref 1, .d (.int m)] (pst p ++ R) = .ok (.d (.int (v : Nat))) (pst p' ++ R) := fun m p h h2 => draw_i t.r.p (d + 8) hR p h (by omega)
  obtain ⟨a, p1, ha, e1⟩ := D 12 p (by decide) (by decide)
  obtain ⟨b, p2, hb, e2⟩ := D 200 p1 (by decide) (by decide)
  simp only [Int.cast_ofNat_Int] at e1 e2
  obtain ⟨x, p3, hx, e3⟩ := pick_i (wn := wn) t.r.p (d + 7) hR p2 (ps := [.int 1, .int 200, .int (1 + (a : Int)), .int (1 + (b : Int))]) (by simp) (by simp)
  have : ∃ c : Nat, 1 ≤ c ∧ c ≤ 200 ∧ x = .int c := by
    simp only [List.mem_cons, List.not_mem_nil, or_false] at hx
    rcases hx with e | e | e | e
    · exact ⟨1, by omega, by omega, e⟩
    · exact ⟨200, by omega, by omega, e⟩
    · exact ⟨1 + a, by omega, by omega, by rw [e]; congr 1⟩
    · exact ⟨1 + b, by omega, by omega, by rw [e]; congr 1⟩
  obtain ⟨dd, hd1, hd2, rfl⟩ := this
  obtain ⟨u, p4, hu, e4⟩ := D n p3 hw.n1 (by omega)
  have lt : ls.length < LIM := by unfold LIM; omega
  have lt2 : (sortU (least ls)).length < LIM := by rw [sortU_perm.length_eq]; exact Nat.lt_of_le_of_lt (Nat.le_trans kr_sub.length_le (Nat.le_of_eq sortD_perm.length_eq)) lt
  have mp : mx (sortU (least ls)) = mx (least ls) := mx_perm sortU_perm
  have c1 : cutP [.str "loans", .int k, .int L, .int j] (some 1) none = [.int k, .int L, .int j] := rfl
  have i0 : ixP (web n ls) (.int 0) = some (.int n) := rfl
  have hr : RowOk n [(u, dd)] := ⟨by simp, fun q m => by rw [List.mem_singleton.mp m]; exact ⟨hu, hd1, hd2⟩, by simp⟩
  have er : (PyData.tuple [.tuple [.int (u : Nat), .int (dd : Nat)]]) = rowP [(u, dd)] := rfl
  have hm := mul_l (a := (k : Int)) (Sm.of (by have := hk.k20; omega) (by have := hk.k20; omega))
  have hb2 := days_le_all hw hl
  have g : gain k L j n ls [(u, dd)] = (k : Int) * (dd : Int) + rest k j (max (mx (least ls)) dd) - rest k j (mx (least ls)) := by
    unfold gain
    rw [show rowW n [(u, dd)] = [(u, n, dd)] from rfl, days_pend hw.below hu, mx_pend hw.below hu, need_eq, need_eq, Int.natCast_add, Int.mul_add]
    omega
  have kd1 : (k : Int) * (dd : Int) = ((k * dd : Nat) : Int) := by rw [Int.natCast_mul]
  have kd2 : k * dd ≤ 20 * 200 := Nat.mul_le_mul hk.k20 hd2
  have r1 := rest_bound (k := k) (j := j) (M := max (mx (least ls)) dd) hk.k20 (by omega)
  have r2 := rest_bound (k := k) (j := j) (M := mx (least ls)) hk.k20 (by omega)
  have rp := repr_i (i := (k : Int) * (dd : Int) + rest k j (max (mx (least ls)) dd) - rest k j (mx (least ls))) (by omega) (by omega)
  have g2 : need k L j (days (least (ls ++ rowW n [(u, dd)]))) (mx (least (ls ++ rowW n [(u, dd)]))) - need k L j (days (least ls)) (mx (least ls)) = (k : Int) * (dd : Int) + rest k j (max (mx (least ls)) dd) - rest k j (mx (least ls)) := g
  have hl3 : (sortU (ls ++ rowW n [(u, dd)])).length < LIM := by rw [sortU_perm.length_eq, List.length_append]; unfold rowW; rw [List.length_map]; simp; unfold LIM; omega
  have lc := least_congr (sortU_perm (l := ls ++ rowW n [(u, dd)]))
  have C4 := cl_pst hR p4
  refine ⟨p4, ?_⟩
  rw [callF_eq t.mend rfl, C.t__law_mid_end, pst_len]
  have PG := place_gain_i (wn := wn) t.g C4 (d + 1) hw hn (by unfold LIM; omega) hr (by simp) hk
  have N1 := needed_i (wn := wn) t.g.n C4 (d + 2) (webOk_place hw hn hr) hl3 hk
  have N2 := needed_i (wn := wn) t.g.n C4 (d + 2) hw lt hk
  unfold loans at PG N1 N2 ⊢
  simp only [startL, List.map_cons, List.map_nil, List.length_cons, List.length_nil, List.replicate, List.replicate_succ, List.replicate_zero, List.cons_append, List.nil_append, List.append_nil, Nat.reduceAdd, Nat.reduceSub, Nat.zero_add, ↓evalE_popAt, ↓evalI_range1, ↓evalI_range2, ↓evalE_mul, ↓evalE_mod, ↓evalE_fdiv, ↓evalE_pow, evalSs, evalS, evalE, evalEs, evalT, evalI, evalO, evalC, SRes.seq_next, SRes.seq_ret, SRes.seq_err, SRes.seq_brk, SRes.seq_cnt, SRes.seq_stuck, Res.bind_ok, Res.bind_err, Res.bind_stuck, Res.st_ok, Res.st_err, Res.st_stuck, ofO_some, ofO_none, asP_d, getV_z, getV_s, Option.bind_some, Option.map_some, Option.bind_none, Option.map_none, biP, on1, ints2, unD, mkL_f, mkL_t, plain_d, truthP, List.set_cons_zero, List.set_cons_succ, ofOS, unpackV, setAll, setAllD, bindT, ite_tru, ite_fls, if_true, if_false, reduceIte, Bool.false_eq_true, Bool.not_true, Bool.not_false, retv_ok, isi_int, isi_bool, isi_tup, bLen, seqV, seqP_t, seqP_l, lstP, intsV, eq_i, ne_i, le_i, lt_i, gt_i, ge_i, add_i, sub_i, itemsOf, enumOf, Int.cast_ofNat_Int, Int.natCast_one, List.length_map, Int.reduceEq, Int.reduceLT, Int.reduceLE, c1, law_least_i t.o (cl_pst hR p) (d + 7) hw.below (by have := hw.n40; omega) lt, law_longest_i t.o (cl_pst hR p) (d + 8) lt2, mp, e1, e2, e3, hm, rest_i t (cl_pst hR p3) (d + 8) _ _ _ hk.k20, max_i, i0, e4, er, PG, g, rp, nes_i, with_place_i t.g C4 (d + 4) hw hn (by unfold LIM; omega) hr (by simp), N1, N2, lc, g2, eqs_i]
  exact ret_p (cl_pst hR p4) (pst_len p4 R).symm _
end EvP
end
section
set_option maxRecDepth 100000
set_option maxHeartbeats 2000000
/-! EvP15: one place more, in the middle and between (k47); the law. -/
namespace EvP
open Ev PySem L2 MW
/-- far ways -/
def shift (g : Nat) (l : List Wy) : List Wy := l.map fun w => (w.1, w.2.1, 2 * g + w.2.2 - 1)
theorem shift_conn {g : Nat} {l : List Wy} {i j : Nat} (h : Conn l i j) : Conn (shift g l) i j := by
  induction h with
  | refl => exact .refl _
  | @fwd j k d _ m ih => exact .fwd ih (d := 2 * g + d - 1) (List.mem_map.mpr ⟨_, m, rfl⟩)
  | @bwd j k d _ m ih => exact .bwd ih (d := 2 * g + d - 1) (List.mem_map.mpr ⟨_, m, rfl⟩)
theorem shift_ok {g n : Nat} {l : List Wy} (h : WebOk n l) (h6 : ∀ w, w ∈ l → w.2.2 ≤ 6) (g1 : 1 ≤ g) (g12 : g ≤ 12) : WebOk n (shift g l) := by
  refine ⟨h.n1, h.n40, fun w m => ?_, List.pairwise_map.mpr (h.ord.imp fun q => q), fun i hi => shift_conn (h.whole i hi)⟩
  obtain ⟨x, hx, e⟩ := List.mem_map.mp m
  have := h.uv x hx; have := h6 x hx
  subst e
  dsimp only
  omega
theorem shift_ge {g : Nat} {l : List Wy} (h1 : ∀ w, w ∈ l → 1 ≤ w.2.2) : ∀ w, w ∈ shift g l → 2 * g ≤ w.2.2 := fun w m => by
  obtain ⟨x, hx, e⟩ := List.mem_map.mp m
  have := h1 x hx
  subst e
  dsimp only
  omega
def midRow (g n : Nat) : Row := (List.range n).map fun i => (i, g)
theorem midRow_days (g n : Nat) : days (rowW n (midRow g n)) = n * g ∧ mx (rowW n (midRow g n)) = if n = 0 then 0 else g := by
  have e : rowW n (midRow g n) = (List.range n).map fun i => (i, n, g) := by unfold rowW midRow; rw [List.map_map]; rfl
  have all : ∀ l : List Nat, days (l.map fun i => (i, n, g)) = l.length * g ∧ mx (l.map fun i => (i, n, g)) = if l.length = 0 then 0 else g := by
    intro l
    induction l with
    | nil => exact ⟨by simp [days], rfl⟩
    | cons a l ih =>
      rw [List.map_cons, days_cons, mx, ih.1, ih.2, List.length_cons]
      refine ⟨by rw [Nat.add_mul]; dsimp only; omega, ?_⟩
      dsimp only
      split <;> simp <;> omega
  have := all (List.range n)
  rw [e]
  simpa using this
theorem least_one (a b c : Nat) (h : a ≠ b) : least [(a, b, c)] = [(a, b, c)] := by
  have e : sortD [(a, b, c)] = [(a, b, c)] := sortD_of (List.Perm.refl _) (by simp)
  unfold least
  rw [e, kr_new (w := (a, b, c)) (by rw [conn_nil]; exact h), kr]
variable {T : String → Option Fn} {wn : Nat} (t : T47 T)
include t
theorem middle_i (d : Nat) {R : Sto} (hR : NB R) (p : Pool) {k L j : Nat} (hk : LoansOk k L j) :
    ∃ p', callF T wn (d + 10) "_law_mid_middle" [.ref 1, .d (.int k), .d (.int L), .d (.int j)] (pst p ++ R) = .ok (.d (.bool true)) (pst p' ++ R) := by
  have D : ∀ (m : Nat) (p : Pool), 0 < m → m < 1000 → ∃ v p', v < m ∧ callF T wn (d + 9) "_law_draw" [.ref 1, .d (.int m)] (pst p ++ R) = .ok (.d (.int (v : Nat))) (pst p' ++ R) := fun m p h h2 => draw_i t.r.p (d + 8) hR p h (by omega)
  obtain ⟨x, p1, hx, e1⟩ := pick_i (wn := wn) t.r.p (d + 7) hR p (ps := [.int 2, .int 12]) (by simp) (by simp)
  have : ∃ c : Nat, 1 ≤ c ∧ c ≤ 12 ∧ x = .int c := by
    simp only [List.mem_cons, List.not_mem_nil, or_false] at hx
    rcases hx with e | e
    · exact ⟨2, by omega, by omega, e⟩
    · exact ⟨12, by omega, by omega, e⟩
  obtain ⟨c, hc1, hc2, rfl⟩ := this
  obtain ⟨g0, p2, hg0, e2⟩ := D c p1 (by omega) (by omega)
  have eg : (1 : Int) + (g0 : Int) = ((1 + g0 : Nat) : Int) := by omega
  have g1 : 1 ≤ 1 + g0 := by omega
  have g12 : 1 + g0 ≤ 12 := by omega
  generalize 1 + g0 = g at eg g1 g12
  obtain ⟨n0, p3, hn0, e3⟩ := D 4 p2 (by decide) (by decide)
  simp only [Int.cast_ofNat_Int] at e3
  have en : (3 : Int) + (n0 : Int) = ((3 + n0 : Nat) : Int) := by omega
  have n3 : 3 ≤ 3 + n0 := by omega
  have n6 : 3 + n0 ≤ 6 := by omega
  generalize 3 + n0 = n at en n3 n6
  have := drawn_i (wn := wn) t.r.p (d + 5) hR p3 (n := n) (m := 6) (f := 6) (by omega) (by omega) (by omega) (by omega) (by omega)
  simp only [Int.cast_ofNat_Int] at this
  obtain ⟨ls, p4, hw, h6, hl, e4⟩ := this
  have hW := shift_ok (g := g) hw h6 g1 g12
  have hlen : (shift g ls).length ≤ 12 := by unfold shift; rw [List.length_map]; omega
  have lt : (shift g ls).length < LIM := by unfold LIM; omega
  have lt2 : (sortU (least (shift g ls))).length < LIM := by rw [sortU_perm.length_eq]; exact Nat.lt_of_le_of_lt (Nat.le_trans kr_sub.length_le (Nat.le_of_eq sortD_perm.length_eq)) lt
  have mp : mx (sortU (least (shift g ls))) = mx (least (shift g ls)) := mx_perm sortU_perm
  have dp : days (sortU (least (shift g ls))) = days (least (shift g ls)) := days_perm sortU_perm
  -- the row of all places
  have hr : RowOk n (midRow g n) := by
    refine ⟨fun e => ?_, fun q m => ?_, ?_⟩
    · have := congrArg List.length e
      simp [midRow] at this
      omega
    · obtain ⟨i, hi, e⟩ := List.mem_map.mp m
      subst e
      exact ⟨by simpa using hi, g1, by dsimp only; omega⟩
    · exact List.pairwise_map.mpr (by simpa using List.pairwise_lt_range)
  have hrl : (midRow g n).length ≤ 40 := by unfold midRow; simp; omega
  have star : least (shift g ls ++ rowW n (midRow g n)) = sortD (rowW n (midRow g n)) := by
    have e : rowW n (midRow g n) = (List.range n).map fun i => (i, n, g) := by unfold rowW midRow; rw [List.map_map]; rfl
    have ef : (rowW n (midRow g n)).map (·.1) = List.range n := by rw [e, List.map_map]; simp [Function.comp_def]
    refine least_star hW.below (fun w m => ?_) (by rw [ef]; exact List.nodup_range) (fun i hi => by rw [ef]; simpa using hi) (fun w m x hx => ?_)
    · rw [e] at m
      obtain ⟨i, hi, q⟩ := List.mem_map.mp m
      subst q
      exact ⟨by simpa using hi, rfl⟩
    · rw [e] at m
      obtain ⟨i, hi, q⟩ := List.mem_map.mp m
      subst q
      have := shift_ge (g := g) (fun w m => (hw.uv w m).2.2.1) x hx
      dsimp only
      omega
  have md := midRow_days g n
  rw [if_neg (by omega)] at md
  -- the numbers
  have many := least_many hW.below hW.whole (by omega)
  have ge := days_ge (l := least (shift g ls)) (c := 2 * g) fun w m => shift_ge (g := g) (fun w m => (hw.uv w m).2.2.1) w (least_mem m)
  have hb := days_le_all hW (by omega)
  have T2 : (n - 1) * (2 * g) ≤ days (least (shift g ls)) := Nat.le_trans (Nat.mul_le_mul_right _ (by omega)) ge
  have T3 : n * g + 1 ≤ days (least (shift g ls)) := by
    have h1 : (n - 1) * (2 * g) = 2 * (n * g) - 2 * g := by
      rw [Nat.sub_mul, Nat.one_mul, Nat.mul_left_comm]
    have h2 : 3 * g ≤ n * g := Nat.mul_le_mul_right g n3
    omega
  have Mg : g ≤ mx (least (shift g ls)) := by
    cases q : least (shift g ls) with
    | nil => rw [q] at many; simp at many; omega
    | cons w r =>
      have := shift_ge (g := g) (fun w m => (hw.uv w m).2.2.1) w (least_mem (by rw [q]; exact List.mem_cons_self ..))
      rw [mx]; omega
  have gn : gain k L j n (shift g ls) (midRow g n) = (k : Int) * ((n : Int) * (g : Int) - (days (least (shift g ls)) : Nat)) + rest k j g - rest k j (mx (least (shift g ls))) := by
    unfold gain
    rw [star, days_sortD, mx_sortD, md.1, md.2, need_eq, need_eq, Int.natCast_mul, Int.mul_sub]
    omega
  have ng : ((n * g : Nat) : Int) = (n : Int) * (g : Int) := Int.natCast_mul n g
  have neg : (k : Int) * ((n : Int) * (g : Int) - (days (least (shift g ls)) : Nat)) ≤ -1 ∧ -8000000 ≤ (k : Int) * ((n : Int) * (g : Int) - (days (least (shift g ls)) : Nat)) := by
    rw [← ng]
    have e : ((n * g : Nat) : Int) - (days (least (shift g ls)) : Nat) = -((days (least (shift g ls)) - n * g : Nat) : Int) := by omega
    rw [e, Int.mul_neg, ← Int.natCast_mul]
    have a1 : 1 * 1 ≤ k * (days (least (shift g ls)) - n * g) := Nat.mul_le_mul hk.k1 (by omega)
    have a2 : k * (days (least (shift g ls)) - n * g) ≤ 20 * 400000 := Nat.mul_le_mul hk.k20 (by omega)
    omega
  have rm := rest_mono (k := k) (j := j) Mg
  have r1 := rest_bound (k := k) (j := j) (M := g) hk.k20 (by omega)
  have r2 := rest_bound (k := k) (j := j) (M := mx (least (shift g ls))) hk.k20 (by omega)
  have E0 : (k : Int) * ((n : Int) * (g : Int) - (days (least (shift g ls)) : Nat)) + rest k j g - rest k j (mx (least (shift g ls))) < 0 := by omega
  have rp := repr_i (i := (k : Int) * ((n : Int) * (g : Int) - (days (least (shift g ls)) : Nat)) + rest k j g - rest k j (mx (least (shift g ls)))) (by omega) (by omega)
  have hm := mul_l (a := (k : Int)) (Sm.of (by have := hk.k20; omega) (by have := hk.k20; omega))
  have hm2 := mul_l (a := 2) (Sm.of (by decide) (by decide))
  have hm3 := mul_l (a := (n : Int)) (Sm.of (by omega) (by omega))
  have C4 := cl_pst hR p4
  have PG := place_gain_i (wn := wn) t.g C4 (d + 1) hW (by omega) (by unfold LIM; omega) hr hrl hk
  have LL := law_least_i (wn := wn) t.o C4 (d + 7) hW.below (by omega) lt
  have i1 : ixP (web n ls) (.int 1) = some (.tuple (wys ls)) := rfl
  have ll : ls.length ≤ LIM := by unfold LIM; omega
  refine ⟨p4, ?_⟩
  rw [callF_eq t.middle rfl, C.t__law_mid_middle, pst_len]
  simp only [startL, List.map_cons, List.map_nil, List.length_cons, List.length_nil, List.replicate, List.replicate_succ, List.replicate_zero, List.cons_append, List.nil_append, List.append_nil, Nat.reduceAdd, Nat.reduceSub, Nat.zero_add, ↓evalE_popAt, ↓evalI_range1, ↓evalI_range2, ↓evalE_mul, ↓evalE_mod, ↓evalE_fdiv, ↓evalE_pow, evalSs, evalS, evalE, evalEs, evalT, evalI, evalO, evalC, SRes.seq_next, SRes.seq_ret, SRes.seq_err, SRes.seq_brk, SRes.seq_cnt, SRes.seq_stuck, Res.bind_ok, Res.bind_err, Res.bind_stuck, Res.st_ok, Res.st_err, Res.st_stuck, ofO_some, ofO_none, asP_d, getV_z, getV_s, Option.bind_some, Option.map_some, Option.bind_none, Option.map_none, biP, on1, ints2, unD, mkL_f, mkL_t, plain_d, truthP, List.set_cons_zero, List.set_cons_succ, ofOS, unpackV, setAll, setAllD, bindT, ite_tru, ite_fls, if_true, if_false, reduceIte, Bool.false_eq_true, Bool.not_true, Bool.not_false, retv_ok, isi_int, isi_bool, isi_tup, bLen, seqV, seqP_t, seqP_l, lstP, intsV, eq_i, ne_i, le_i, lt_i, gt_i, ge_i, add_i, sub_i, itemsOf, enumOf, Int.cast_ofNat_Int, Int.natCast_one, List.length_map, Int.reduceEq, Int.reduceLT, Int.reduceLE, e1, e2, eg, e3, en, e4, i1, wys_len, if_pos ll]
  rw [comp_map (g := fun x => match x with
    | .tuple [.int u, .int v, .int w] => .tuple [.int u, .int v, .int (2 * (g : Int) + w - 1)]
    | y => y) rfl]
  · have e : (wys ls).map (fun x => match x with
      | .tuple [.int u, .int v, .int w] => .tuple [.int u, .int v, .int (2 * (g : Int) + w - 1)]
      | y => y) = wys (shift g ls) := by
      unfold wys shift
      rw [List.map_map, List.map_map]
      refine List.map_congr_left fun w m => ?_
      have := (hw.uv w m).2.2.1
      have e3 : 2 * (g : Int) + (w.2.2 : Int) - 1 = ((2 * g + w.2.2 - 1 : Nat) : Int) := by omega
      simp only [Function.comp, wy, e3]
    simp only [noErr_ok, ↓evalE_popAt, ↓evalI_range1, ↓evalI_range2, ↓evalE_mul, ↓evalE_mod, ↓evalE_fdiv, ↓evalE_pow, evalSs, evalS, evalE, evalEs, evalT, evalI, evalO, evalC, SRes.seq_next, SRes.seq_ret, SRes.seq_err, SRes.seq_brk, SRes.seq_cnt, SRes.seq_stuck, Res.bind_ok, Res.bind_err, Res.bind_stuck, Res.st_ok, Res.st_err, Res.st_stuck, ofO_some, ofO_none, asP_d, getV_z, getV_s, Option.bind_some, Option.map_some, Option.bind_none, Option.map_none, biP, on1, ints2, unD, mkL_f, mkL_t, plain_d, truthP, List.set_cons_zero, List.set_cons_succ, ofOS, unpackV, setAll, setAllD, bindT, ite_tru, ite_fls, if_true, if_false, reduceIte, Bool.false_eq_true, Bool.not_true, Bool.not_false, retv_ok, isi_int, isi_bool, isi_tup, bLen, seqV, seqP_t, seqP_l, lstP, intsV, eq_i, ne_i, le_i, lt_i, gt_i, ge_i, add_i, sub_i, itemsOf, enumOf, Int.cast_ofNat_Int, Int.natCast_one, List.length_map, Int.reduceEq, Int.reduceLT, Int.reduceLE, List.nil_append, e]
    rw [show (PyData.tuple [.int (n : Nat), .tuple (wys (shift g ls))]) = web n (shift g ls) from rfl]
    simp only [↓evalE_popAt, ↓evalI_range1, ↓evalI_range2, ↓evalE_mul, ↓evalE_mod, ↓evalE_fdiv, ↓evalE_pow, evalSs, evalS, evalE, evalEs, evalT, evalI, evalO, evalC, SRes.seq_next, SRes.seq_ret, SRes.seq_err, SRes.seq_brk, SRes.seq_cnt, SRes.seq_stuck, Res.bind_ok, Res.bind_err, Res.bind_stuck, Res.st_ok, Res.st_err, Res.st_stuck, ofO_some, ofO_none, asP_d, getV_z, getV_s, Option.bind_some, Option.map_some, Option.bind_none, Option.map_none, biP, on1, ints2, unD, mkL_f, mkL_t, plain_d, truthP, List.set_cons_zero, List.set_cons_succ, ofOS, unpackV, setAll, setAllD, bindT, ite_tru, ite_fls, if_true, if_false, reduceIte, Bool.false_eq_true, Bool.not_true, Bool.not_false, retv_ok, isi_int, isi_bool, isi_tup, bLen, seqV, seqP_t, seqP_l, lstP, intsV, eq_i, ne_i, le_i, lt_i, gt_i, ge_i, add_i, sub_i, itemsOf, enumOf, Int.cast_ofNat_Int, Int.natCast_one, List.length_map, Int.reduceEq, Int.reduceLT, Int.reduceLE, LL, law_length_i t.o t.length C4 (d + 8) lt2, law_longest_i t.o C4 (d + 8) lt2, dp, mp, hm, hm3, rest_i t C4 (d + 8) _ _ _ hk.k20, rg1_i (n := n) (by omega)]
    rw [show (rangeP 0 (n : Int)) = nats (List.range n) from rangeP_nat n, nats_len, List.length_range, if_pos (show n ≤ LIM by unfold LIM; omega)]
    rw [comp_map (g := fun x => .tuple [x, .int (g : Int)]) rfl]
    · have e : (nats (List.range n)).map (fun x => PyData.tuple [x, .int (g : Int)]) = (midRow g n).map pr := by
        unfold nats midRow
        rw [List.map_map, List.map_map]
        rfl
      simp only [noErr_ok, ↓evalE_popAt, ↓evalI_range1, ↓evalI_range2, ↓evalE_mul, ↓evalE_mod, ↓evalE_fdiv, ↓evalE_pow, evalSs, evalS, evalE, evalEs, evalT, evalI, evalO, evalC, SRes.seq_next, SRes.seq_ret, SRes.seq_err, SRes.seq_brk, SRes.seq_cnt, SRes.seq_stuck, Res.bind_ok, Res.bind_err, Res.bind_stuck, Res.st_ok, Res.st_err, Res.st_stuck, ofO_some, ofO_none, asP_d, getV_z, getV_s, Option.bind_some, Option.map_some, Option.bind_none, Option.map_none, biP, on1, ints2, unD, mkL_f, mkL_t, plain_d, truthP, List.set_cons_zero, List.set_cons_succ, ofOS, unpackV, setAll, setAllD, bindT, ite_tru, ite_fls, if_true, if_false, reduceIte, Bool.false_eq_true, Bool.not_true, Bool.not_false, retv_ok, isi_int, isi_bool, isi_tup, bLen, seqV, seqP_t, seqP_l, lstP, intsV, eq_i, ne_i, le_i, lt_i, gt_i, ge_i, add_i, sub_i, itemsOf, enumOf, Int.cast_ofNat_Int, Int.natCast_one, List.length_map, Int.reduceEq, Int.reduceLT, Int.reduceLE, List.nil_append, e]
      rw [show (PyData.tuple ((midRow g n).map pr)) = rowP (midRow g n) from rfl, show (PyData.tuple [.str "loans", .int (k : Nat), .int (L : Nat), .int (j : Nat)]) = EvP.loans k L j from rfl]
      simp only [↓evalE_popAt, ↓evalI_range1, ↓evalI_range2, ↓evalE_mul, ↓evalE_mod, ↓evalE_fdiv, ↓evalE_pow, evalSs, evalS, evalE, evalEs, evalT, evalI, evalO, evalC, SRes.seq_next, SRes.seq_ret, SRes.seq_err, SRes.seq_brk, SRes.seq_cnt, SRes.seq_stuck, Res.bind_ok, Res.bind_err, Res.bind_stuck, Res.st_ok, Res.st_err, Res.st_stuck, ofO_some, ofO_none, asP_d, getV_z, getV_s, Option.bind_some, Option.map_some, Option.bind_none, Option.map_none, biP, on1, ints2, unD, mkL_f, mkL_t, plain_d, truthP, List.set_cons_zero, List.set_cons_succ, ofOS, unpackV, setAll, setAllD, bindT, ite_tru, ite_fls, if_true, if_false, reduceIte, Bool.false_eq_true, Bool.not_true, Bool.not_false, retv_ok, isi_int, isi_bool, isi_tup, bLen, seqV, seqP_t, seqP_l, lstP, intsV, eq_i, ne_i, le_i, lt_i, gt_i, ge_i, add_i, sub_i, itemsOf, enumOf, Int.cast_ofNat_Int, Int.natCast_one, List.length_map, Int.reduceEq, Int.reduceLT, Int.reduceLE, PG, gn, E0, decide_true, rp, eqs_i]
      exact ret_p C4 (pst_len p4 R).symm _
    · intro x hx
      obtain ⟨a, _, rfl⟩ := List.mem_map.mp hx
      simp only [compF, wipeL, ↓evalE_popAt, ↓evalI_range1, ↓evalI_range2, ↓evalE_mul, ↓evalE_mod, ↓evalE_fdiv, ↓evalE_pow, evalSs, evalS, evalE, evalEs, evalT, evalI, evalO, evalC, SRes.seq_next, SRes.seq_ret, SRes.seq_err, SRes.seq_brk, SRes.seq_cnt, SRes.seq_stuck, Res.bind_ok, Res.bind_err, Res.bind_stuck, Res.st_ok, Res.st_err, Res.st_stuck, ofO_some, ofO_none, asP_d, getV_z, getV_s, Option.bind_some, Option.map_some, Option.bind_none, Option.map_none, biP, on1, ints2, unD, mkL_f, mkL_t, plain_d, truthP, List.set_cons_zero, List.set_cons_succ, ofOS, unpackV, setAll, setAllD, bindT, ite_tru, ite_fls, if_true, if_false, reduceIte, Bool.false_eq_true, Bool.not_true, Bool.not_false, retv_ok]
  · intro x hx
    obtain ⟨w, _, rfl⟩ := List.mem_map.mp hx
    simp only [compF, wipeL, wy, ↓evalE_popAt, ↓evalI_range1, ↓evalI_range2, ↓evalE_mul, ↓evalE_mod, ↓evalE_fdiv, ↓evalE_pow, evalSs, evalS, evalE, evalEs, evalT, evalI, evalO, evalC, SRes.seq_next, SRes.seq_ret, SRes.seq_err, SRes.seq_brk, SRes.seq_cnt, SRes.seq_stuck, Res.bind_ok, Res.bind_err, Res.bind_stuck, Res.st_ok, Res.st_err, Res.st_stuck, ofO_some, ofO_none, asP_d, getV_z, getV_s, Option.bind_some, Option.map_some, Option.bind_none, Option.map_none, biP, on1, ints2, unD, mkL_f, mkL_t, plain_d, truthP, List.set_cons_zero, List.set_cons_succ, ofOS, unpackV, setAll, setAllD, bindT, ite_tru, ite_fls, if_true, if_false, reduceIte, Bool.false_eq_true, Bool.not_true, Bool.not_false, retv_ok, isi_int, isi_bool, isi_tup, bLen, seqV, seqP_t, seqP_l, lstP, intsV, eq_i, ne_i, le_i, lt_i, gt_i, ge_i, add_i, sub_i, itemsOf, enumOf, Int.cast_ofNat_Int, Int.natCast_one, List.length_map, Int.reduceEq, Int.reduceLT, Int.reduceLE, hm2]
theorem between_i (d : Nat) {R : Sto} (hR : NB R) (p : Pool) {k L j : Nat} (hk : LoansOk k L j) :
    ∃ p', callF T wn (d + 10) "_law_mid_between" [.ref 1, .d (.int k), .d (.int L), .d (.int j)] (pst p ++ R) = .ok (.d (.bool true)) (pst p' ++ R) := by
  have X : ∀ p : Pool, ∃ (c v : Nat) (p1 p2 : Pool), v < c ∧ c ≤ 100 ∧ callF T wn (d + 9) "_law_pick" [.ref 1, .d (.list [.int 3, .int 100])] (pst p ++ R) = .ok (.d (.int (c : Nat))) (pst p1 ++ R) ∧ callF T wn (d + 9) "_law_draw" [.ref 1, .d (.int (c : Nat))] (pst p1 ++ R) = .ok (.d (.int (v : Nat))) (pst p2 ++ R) := fun p => by
    obtain ⟨x, p1, hx, e1⟩ := pick_i (wn := wn) t.r.p (d + 7) hR p (ps := [.int 3, .int 100]) (by simp) (by simp)
    have : ∃ c : Nat, 1 ≤ c ∧ c ≤ 100 ∧ x = .int c := by
      simp only [List.mem_cons, List.not_mem_nil, or_false] at hx
      rcases hx with e | e
      · exact ⟨3, by omega, by omega, e⟩
      · exact ⟨100, by omega, by omega, e⟩
    obtain ⟨c, hc1, hc2, rfl⟩ := this
    obtain ⟨v, p2, hv, e2⟩ := draw_i (wn := wn) t.r.p (d + 8) hR p1 (n := c) (by omega) (by omega)
    exact ⟨c, v, p1, p2, hv, hc2, e1, e2⟩
  obtain ⟨c, v, p1, p2, hv, hc, e1, e2⟩ := X p
  obtain ⟨c', v', p3, p4, hv', hc', e3, e4⟩ := X p2
  have ea : (1 : Int) + (v : Int) = ((1 + v : Nat) : Int) := by omega
  have eb : (1 : Int) + (v' : Int) = ((1 + v' : Nat) : Int) := by omega
  have a1 : 1 ≤ 1 + v := by omega
  have a2 : 1 + v ≤ 100 := by omega
  have b1 : 1 ≤ 1 + v' := by omega
  have b2 : 1 + v' ≤ 100 := by omega
  generalize 1 + v = a at ea a1 a2
  generalize 1 + v' = b at eb b1 b2
  have hW : WebOk 2 [(0, 1, a + b)] := ⟨by omega, by omega, fun w m => by rw [List.mem_singleton.mp m]; dsimp only; omega, by simp, fun i hi => by
    by_cases i0 : i = 0
    · subst i0; exact .refl _
    · rw [show i = 1 by omega]; exact .of (d := a + b) (by simp)⟩
  have hr : RowOk 2 [(0, a), (1, b)] := ⟨by simp, fun q m => by
    simp only [List.mem_cons, List.not_mem_nil, or_false] at m
    rcases m with e | e <;> subst e <;> dsimp only <;> omega, by simp⟩
  have star : least ([(0, 1, a + b)] ++ rowW 2 [(0, a), (1, b)]) = sortD [(0, 2, a), (1, 2, b)] := by
    refine least_star hW.below (fun w m => ?_) (by simp [rowW]) (fun i hi => ?_) (fun w m x hx => ?_)
    · simp only [rowW, List.map_cons, List.map_nil, List.mem_cons, List.not_mem_nil, or_false] at m
      rcases m with e | e <;> subst e <;> dsimp only <;> omega
    · simp only [rowW, List.map_cons, List.map_nil, List.mem_cons, List.not_mem_nil, or_false]
      omega
    · rw [List.mem_singleton.mp hx]
      simp only [rowW, List.map_cons, List.map_nil, List.mem_cons, List.not_mem_nil, or_false] at m
      rcases m with e | e <;> subst e <;> dsimp only <;> omega
  have d1 : days [(0, 2, a), (1, 2, b)] = a + b := by simp [days]
  have d2 : mx [(0, 2, a), (1, 2, b)] = max a b := by simp [mx]
  have d3 : days [(0, 1, a + b)] = a + b := by simp [days]
  have d4 : mx [(0, 1, a + b)] = a + b := by simp [mx]
  have gn : gain k L j 2 [(0, 1, a + b)] [(0, a), (1, b)] = rest k j (max a b) - rest k j (a + b) := by
    unfold gain
    rw [star, days_sortD, mx_sortD, least_one 0 1 (a + b) (by decide), need_eq, need_eq, d1, d2, d3, d4]
    omega
  have rm := rest_mono (k := k) (j := j) (show max a b ≤ a + b by omega)
  have r1 := rest_bound (k := k) (j := j) (M := max a b) hk.k20 (by omega)
  have r2 := rest_bound (k := k) (j := j) (M := a + b) hk.k20 (by omega)
  have E0 : rest k j (max a b) - rest k j (a + b) ≤ 0 := by omega
  have rp := repr_i (i := rest k j (max a b) - rest k j (a + b)) (by omega) (by omega)
  have C4 := cl_pst hR p4
  have PG := place_gain_i (wn := wn) t.g C4 (d + 1) hW (by omega) (by simp; decide) hr (by simp) hk
  have eab : (a : Int) + (b : Int) = ((a + b : Nat) : Int) := by omega
  refine ⟨p4, ?_⟩
  rw [callF_eq t.between rfl, C.t__law_mid_between, pst_len]
  simp only [startL, List.map_cons, List.map_nil, List.length_cons, List.length_nil, List.replicate, List.replicate_succ, List.replicate_zero, List.cons_append, List.nil_append, List.append_nil, Nat.reduceAdd, Nat.reduceSub, Nat.zero_add, ↓evalE_popAt, ↓evalI_range1, ↓evalI_range2, ↓evalE_mul, ↓evalE_mod, ↓evalE_fdiv, ↓evalE_pow, evalSs, evalS, evalE, evalEs, evalT, evalI, evalO, evalC, SRes.seq_next, SRes.seq_ret, SRes.seq_err, SRes.seq_brk, SRes.seq_cnt, SRes.seq_stuck, Res.bind_ok, Res.bind_err, Res.bind_stuck, Res.st_ok, Res.st_err, Res.st_stuck, ofO_some, ofO_none, asP_d, getV_z, getV_s, Option.bind_some, Option.map_some, Option.bind_none, Option.map_none, biP, on1, ints2, unD, mkL_f, mkL_t, plain_d, truthP, List.set_cons_zero, List.set_cons_succ, ofOS, unpackV, setAll, setAllD, bindT, ite_tru, ite_fls, if_true, if_false, reduceIte, Bool.false_eq_true, Bool.not_true, Bool.not_false, retv_ok, isi_int, isi_bool, isi_tup, bLen, seqV, seqP_t, seqP_l, lstP, intsV, eq_i, ne_i, le_i, lt_i, gt_i, ge_i, add_i, sub_i, itemsOf, enumOf, Int.cast_ofNat_Int, Int.natCast_one, List.length_map, Int.reduceEq, Int.reduceLT, Int.reduceLE, e1, e2, ea, e3, e4, eb, max_i, eab, rest_i t C4 (d + 8) _ _ _ hk.k20, E0, decide_true]
  rw [show (PyData.tuple [.int 2, .tuple [.tuple [.int 0, .int 1, .int (a + b : Nat)]]]) = web 2 [(0, 1, a + b)] from rfl, show (PyData.tuple [.tuple [.int 0, .int (a : Nat)], .tuple [.int 1, .int (b : Nat)]]) = rowP [(0, a), (1, b)] from rfl, show (PyData.tuple [.str "loans", .int (k : Nat), .int (L : Nat), .int (j : Nat)]) = EvP.loans k L j from rfl]
  simp only [PG, gn, rp, ↓evalE_popAt, ↓evalI_range1, ↓evalI_range2, ↓evalE_mul, ↓evalE_mod, ↓evalE_fdiv, ↓evalE_pow, evalSs, evalS, evalE, evalEs, evalT, evalI, evalO, evalC, SRes.seq_next, SRes.seq_ret, SRes.seq_err, SRes.seq_brk, SRes.seq_cnt, SRes.seq_stuck, Res.bind_ok, Res.bind_err, Res.bind_stuck, Res.st_ok, Res.st_err, Res.st_stuck, ofO_some, ofO_none, asP_d, getV_z, getV_s, Option.bind_some, Option.map_some, Option.bind_none, Option.map_none, biP, on1, ints2, unD, mkL_f, mkL_t, plain_d, truthP, List.set_cons_zero, List.set_cons_succ, ofOS, unpackV, setAll, setAllD, bindT, ite_tru, ite_fls, if_true, if_false, reduceIte, Bool.false_eq_true, Bool.not_true, Bool.not_false, retv_ok, isi_int, isi_bool, isi_tup, bLen, seqV, seqP_t, seqP_l, lstP, intsV, eq_i, ne_i, le_i, lt_i, gt_i, ge_i, add_i, sub_i, itemsOf, enumOf, Int.cast_ofNat_Int, Int.natCast_one, List.length_map, Int.reduceEq, Int.reduceLT, Int.reduceLE, eqs_i]
  exact ret_p C4 (pst_len p4 R).symm _
theorem law47 (ns : List Int) : ∃ S', callF T wn 20 "law" [.d (.list (ns.map .int))] [] = .ok (.d (.bool true)) S' := by
  obtain ⟨p, e0⟩ := pool_i (wn := wn) t.pool 18 ns
  have A := any_i (wn := wn) t.r 12 NB.nil p (a := 7) (m := 6) (by omega) (by omega) (by omega) (by omega)
  simp only [Int.cast_ofNat_Int, List.append_nil] at A
  obtain ⟨n, ls, p1, hw, hl, e1⟩ := A
  have B := loans_i (wn := wn) t.r.p t.o t.loans 15 NB.nil p1 hw hl
  simp only [List.append_nil] at B
  obtain ⟨k, L, j, p2, hk, e2⟩ := B
  have c1 : cutP [.str "loans", .int k, .int L, .int j] (some 1) none = [.int k, .int L, .int j] := rfl
  have i0 : ixP (web n ls) (.int 0) = some (.int n) := rfl
  have tail : ∀ p, ∃ p', outF false 0 (evalSs (callF T wn 19) wn (C.t_law.body.drop 5) [some (.d (.list (ns.map .int))), some (.ref 1), some (.d (web n ls)), some (.d (loans k L j)), some (.d (.int k)), some (.d (.int L)), some (.d (.int j))] (pst p)) = .ok (.d (.bool true)) p' := by
    intro p
    have M := middle_i (wn := wn) t 9 NB.nil p hk
    simp only [List.append_nil] at M
    obtain ⟨p3, e3⟩ := M
    have N := between_i (wn := wn) t 9 NB.nil p3 hk
    simp only [List.append_nil] at N
    obtain ⟨p4, e4⟩ := N
    simp only [C.t_law, List.drop_succ_cons, List.drop_zero]
    simp only [startL, List.map_cons, List.map_nil, List.length_cons, List.length_nil, List.replicate, List.replicate_succ, List.replicate_zero, List.cons_append, List.nil_append, List.append_nil, Nat.reduceAdd, Nat.reduceSub, Nat.zero_add, ↓evalE_popAt, ↓evalI_range1, ↓evalI_range2, ↓evalE_mul, ↓evalE_mod, ↓evalE_fdiv, ↓evalE_pow, evalSs, evalS, evalE, evalEs, evalT, evalI, evalO, evalC, SRes.seq_next, SRes.seq_ret, SRes.seq_err, SRes.seq_brk, SRes.seq_cnt, SRes.seq_stuck, Res.bind_ok, Res.bind_err, Res.bind_stuck, Res.st_ok, Res.st_err, Res.st_stuck, ofO_some, ofO_none, asP_d, getV_z, getV_s, Option.bind_some, Option.map_some, Option.bind_none, Option.map_none, biP, on1, ints2, unD, mkL_f, mkL_t, plain_d, truthP, List.set_cons_zero, List.set_cons_succ, ofOS, unpackV, setAll, setAllD, bindT, ite_tru, ite_fls, if_true, if_false, reduceIte, Bool.false_eq_true, Bool.not_true, Bool.not_false, retv_ok, isi_int, isi_bool, isi_tup, bLen, seqV, seqP_t, seqP_l, lstP, intsV, eq_i, ne_i, le_i, lt_i, gt_i, ge_i, add_i, sub_i, itemsOf, enumOf, Int.cast_ofNat_Int, Int.natCast_one, List.length_map, Int.reduceEq, Int.reduceLT, Int.reduceLE, e3, e4]
    exact ⟨[], rfl⟩
  have split : C.t_law.body = C.t_law.body.take 5 ++ C.t_law.body.drop 5 := (List.take_append_drop 5 _).symm
  rw [callF_eq t.law rfl, split, evalSs_append]
  show ∃ S', outF false 0 _ = _
  generalize C.t_law.body.drop 5 = tl at tail ⊢
  simp only [C.t_law, List.take_succ_cons, List.take_zero]
  unfold loans at e2 tail
  simp only [startL, List.map_cons, List.map_nil, List.length_cons, List.length_nil, List.replicate, List.replicate_succ, List.replicate_zero, List.cons_append, List.nil_append, List.append_nil, Nat.reduceAdd, Nat.reduceSub, Nat.zero_add, ↓evalE_popAt, ↓evalI_range1, ↓evalI_range2, ↓evalE_mul, ↓evalE_mod, ↓evalE_fdiv, ↓evalE_pow, evalSs, evalS, evalE, evalEs, evalT, evalI, evalO, evalC, SRes.seq_next, SRes.seq_ret, SRes.seq_err, SRes.seq_brk, SRes.seq_cnt, SRes.seq_stuck, Res.bind_ok, Res.bind_err, Res.bind_stuck, Res.st_ok, Res.st_err, Res.st_stuck, ofO_some, ofO_none, asP_d, getV_z, getV_s, Option.bind_some, Option.map_some, Option.bind_none, Option.map_none, biP, on1, ints2, unD, mkL_f, mkL_t, plain_d, truthP, List.set_cons_zero, List.set_cons_succ, ofOS, unpackV, setAll, setAllD, bindT, ite_tru, ite_fls, if_true, if_false, reduceIte, Bool.false_eq_true, Bool.not_true, Bool.not_false, retv_ok, isi_int, isi_bool, isi_tup, bLen, seqV, seqP_t, seqP_l, lstP, intsV, eq_i, ne_i, le_i, lt_i, gt_i, ge_i, add_i, sub_i, itemsOf, enumOf, Int.cast_ofNat_Int, Int.natCast_one, List.length_map, Int.reduceEq, Int.reduceLT, Int.reduceLE, e0, e1, e2, c1, i0]
  by_cases c : n < 40
  · have c' : (n : Int) < 40 := by omega
    have E := mid_end_i (wn := wn) t 9 NB.nil p2 hw c hl hk
    unfold loans at E
    simp only [List.append_nil] at E
    obtain ⟨p3, e3⟩ := E
    simp only [c', decide_true, ↓evalE_popAt, ↓evalI_range1, ↓evalI_range2, ↓evalE_mul, ↓evalE_mod, ↓evalE_fdiv, ↓evalE_pow, evalSs, evalS, evalE, evalEs, evalT, evalI, evalO, evalC, SRes.seq_next, SRes.seq_ret, SRes.seq_err, SRes.seq_brk, SRes.seq_cnt, SRes.seq_stuck, Res.bind_ok, Res.bind_err, Res.bind_stuck, Res.st_ok, Res.st_err, Res.st_stuck, ofO_some, ofO_none, asP_d, getV_z, getV_s, Option.bind_some, Option.map_some, Option.bind_none, Option.map_none, biP, on1, ints2, unD, mkL_f, mkL_t, plain_d, truthP, List.set_cons_zero, List.set_cons_succ, ofOS, unpackV, setAll, setAllD, bindT, ite_tru, ite_fls, if_true, if_false, reduceIte, Bool.false_eq_true, Bool.not_true, Bool.not_false, retv_ok, e3]
    exact tail p3
  · have c' : ¬ (n : Int) < 40 := by omega
    simp only [c', decide_false, ↓evalE_popAt, ↓evalI_range1, ↓evalI_range2, ↓evalE_mul, ↓evalE_mod, ↓evalE_fdiv, ↓evalE_pow, evalSs, evalS, evalE, evalEs, evalT, evalI, evalO, evalC, SRes.seq_next, SRes.seq_ret, SRes.seq_err, SRes.seq_brk, SRes.seq_cnt, SRes.seq_stuck, Res.bind_ok, Res.bind_err, Res.bind_stuck, Res.st_ok, Res.st_err, Res.st_stuck, ofO_some, ofO_none, asP_d, getV_z, getV_s, Option.bind_some, Option.map_some, Option.bind_none, Option.map_none, biP, on1, ints2, unD, mkL_f, mkL_t, plain_d, truthP, List.set_cons_zero, List.set_cons_succ, ofOS, unpackV, setAll, setAllD, bindT, ite_tru, ite_fls, if_true, if_false, reduceIte, Bool.false_eq_true, Bool.not_true, Bool.not_false, retv_ok]
    exact tail p2
end EvP
end
section
/-! EvC45: k45's further functions. -/
namespace Ev.C45
open Ev
def t_notice_gain : Fn := ⟨2, 3, false, [(.set 2 (.call "made_terms" [(.var 0), (.var 1)])), (.ite (.or (.not (.call "are_loans" [(.var 2)])) (.cmp .eq (.ix (.var 2) (.lit (.int 3))) (.ix (.var 2) (.lit (.int 2))))) [(.ret (.lit (.int 0)))] []), (.ret (.bin .sub (.call "needed" [(.var 0), (.var 2)]) (.call "needed" [(.var 0), (.bin .add (.sl (.var 2) none (some (.lit (.int 3)))) (.tup [(.bin .add (.ix (.var 2) (.lit (.int 3))) (.lit (.int 1)))]))])))]⟩
def t_loan_gain : Fn := ⟨2, 8, false, [(.expr (.call "check_loans_worths" [(.call "made_terms" [(.var 0), (.var 1)])])), (.unpack [3, 4, 5, 6, 7] (.call "summands" [(.var 0), (.var 1)])), (.set 2 (.call "crates_by" [(.tup [(.var 3), (.var 4), (.var 5), (.bin .add (.var 6) (.lit (.int 1))), (.var 7)])])), (.ret (.bin .sub (.var 2) (.call "crates_by" [(.tup [(.var 3), (.var 4), (.var 5), (.var 6), (.var 7)])])))]⟩
def t__law_term_table : Fn := ⟨3, 12, false, [(.par [5, 6] [(.bin .add (.lit (.int 1)) (.call "_law_draw" [(.var 0), (.lit (.int 997))])), (.bin .add (.lit (.int 1)) (.call "_law_draw" [(.var 0), (.lit (.int 991))]))]), (.par [7, 8, 9] [(.call "_law_draw" [(.var 0), (.var 1)]), (.call "_law_draw" [(.var 0), (.var 1)]), (.bin .add (.lit (.int 1)) (.call "_law_draw" [(.var 0), (.var 2)]))]), (.set 3 (.lst true [])), (.forS (.name 4) (.range1 (.var 1)) [(.set 10 (.comp true [11] (.name 11) (.range1 (.var 1)) none (.bin .add (.lit (.int 1)) (.ite (.cmp .lt (.var 1) (.lit (.int 8))) (.call "_law_draw" [(.var 0), (.var 2)]) (.bin .mod (.bi .int [(.bin .add (.bin .add (.bin .mul (.var 4) (.var 5)) (.bin .mul (.var 11) (.var 6))) (.bin .mul (.var 4) (.var 11)))]) (.var 2)))))), (.setIx (.var 10) (.var 8) (.ite (.cmp .eq (.var 4) (.var 7)) (.var 9) (.ix (.var 10) (.var 8)))), (.setIx (.var 10) (.var 4) (.lit (.int 0))), (.expr (.meth .append (.var 3) [(.bi .tupOf [(.var 10)])]))]), (.ret (.bi .tupOf [(.var 3)]))]⟩
def t__law_term_trips : Fn := ⟨2, 2, false, [(.ite (.cmp .eq (.call "_law_draw" [(.var 0), (.lit (.int 6))]) (.lit (.int 0))) [(.ret (.tup [(.lit (.str "trips")), (.call "_law_pick" [(.var 0), (.lst false [(.lit (.int 20)), (.bin .add (.lit (.int 1)) (.call "_law_draw" [(.var 0), (.lit (.int 20))]))])]), (.call "_law_term_table" [(.var 0), (.ix (.var 1) (.lit (.int 0))), (.lit (.int 200))])]))] []), (.ret (.tup [(.lit (.str "trips")), (.bin .add (.lit (.int 1)) (.call "_law_draw" [(.var 0), (.lit (.int 3))])), (.call "_law_term_table" [(.var 0), (.ix (.var 1) (.lit (.int 0))), (.call "_law_pick" [(.var 0), (.lst false [(.lit (.int 1)), (.lit (.int 3)), (.lit (.int 8))])])])]))]⟩
def t__law_notice_some : Fn := ⟨2, 4, false, [(.ite (.cmp .le (.var 0) (.lit (.int 12))) [(.ret (.bi (.rangeList false) [(.bin .add (.var 0) (.lit (.int 1)))]))] []), (.set 2 (.lst false [(.lit (.int 0)), (.lit (.int 1)), (.bin .sub (.var 1) (.lit (.int 2))), (.bin .sub (.var 1) (.lit (.int 1))), (.var 1), (.bin .add (.var 1) (.lit (.int 1))), (.bin .fdiv (.var 0) (.lit (.int 2))), (.bin .sub (.var 0) (.lit (.int 1))), (.var 0)])), (.ret (.bi (.sortSet false) [(.comp false [3] (.name 3) (.seq (.var 2)) (some (.chain2 (.lit (.int 0)) .le (.var 3) .le (.var 0))) (.var 3))]))]⟩
def t_law : Fn := ⟨1, 14, false, [(.set 1 (.call "_law_pool" [(.var 0)])), (.set 2 (.call "_law_web_any" [(.var 1), (.lit (.int 7)), (.lit (.int 6))])), (.par [4, 5] [(.call "_law_term_loans" [(.var 1), (.var 2)]), (.call "_law_web_least" [(.var 2)])]), (.unpack [6, 7, 8] (.sl (.var 4) (some (.lit (.int 1))) none)), (.par [9, 10, 11] [(.call "_law_web_length" [(.var 5)]), (.call "_law_web_longest" [(.var 5)]), (.lst true [])]), (.forS (.name 3) (.seq (.call "_law_notice_some" [(.var 7), (.var 10)])) [(.set 12 (.tup [(.lit (.str "loans")), (.var 6), (.var 7), (.var 3)])), (.expr (.meth .append (.var 11) [(.call "needed" [(.var 2), (.var 12)])])), (.set 13 (.tup [(.bin .mul (.var 6) (.bin .add (.bin .add (.var 9) (.var 7)) (.bi .max2 [(.lit (.int 0)), (.bin .sub (.var 10) (.var 3))]))), (.ite (.and (.cmp .lt (.var 3) (.var 10)) (.cmp .lt (.var 3) (.var 7))) (.var 6) (.lit (.int 0))), (.var 6)])), (.ite (.cmp .ne (.bi .repr [(.tup [(.ix (.var 11) (.neg (.lit (.int 1)))), (.call "notice_gain" [(.var 2), (.var 12)]), (.call "loan_gain" [(.var 2), (.var 12)])])]) (.bi .repr [(.var 13)])) [(.ret (.lit (.bool false)))] [])]), (.ite (.and (.cmp .gt (.ix (.var 2) (.lit (.int 0))) (.lit (.int 1))) (.cmp .ne (.bi .repr [(.call "notice_gain" [(.var 2), (.call "_law_term_trips" [(.var 1), (.var 2)])])]) (.lit (.str "0")))) [(.ret (.lit (.bool false)))] []), (.ret (.cmp .eq (.bi .repr [(.bin .sub (.ix (.var 11) (.lit (.int 0))) (.ix (.var 11) (.neg (.lit (.int 1)))))]) (.bi .repr [(.bin .mul (.var 6) (.bi .min2 [(.var 10), (.var 7)]))])))]⟩
end Ev.C45
end
section
set_option maxRecDepth 100000
set_option maxHeartbeats 2000000
/-! EvP16: trips. -/
namespace EvP
open Ev PySem L2 MW
/-- a table of trips -/
structure TabOk (n : Nat) (tb : List (List Nat)) : Prop where
  len : tb.length = n
  row : ∀ r, r ∈ tb → r.length = n
  zero : ∀ (a : Nat) (h : a < tb.length), (tb[a]).getD a 1 = 0
  ok : ∀ (a b : Nat) (h : a < tb.length), b < n → b ≠ a → 1 ≤ (tb[a]).getD b 0 ∧ (tb[a]).getD b 0 ≤ 200
def tabP (tb : List (List Nat)) : PyData := .tuple (tb.map fun r => .tuple (nats r))
def trips (k : Nat) (tb : List (List Nat)) : PyData := .tuple [.str "trips", .int k, tabP tb]
structure TT (T : String → Option Fn) : Prop where
  n : TN T
  check_trips : T "_check_trips" = some C.t__check_trips
  is_table : T "_is_table" = some C.t__is_table
  is_row : T "_is_row" = some C.t__is_row
theorem eq_trips : cmpP .eq (.str "trips") (.str "trips") = some true := by
  show (if SeqAt.shaped (.str "trips") = true ∧ SeqAt.shaped (.str "trips") = true then some (PyData.eqv (.str "trips") (.str "trips")) else none) = _
  rw [if_pos (by decide +kernel)]
  rw [show PyData.eqv (.str "trips") (.str "trips") = true by decide +kernel]
theorem eq_trips_loans : cmpP .eq (.str "trips") (.str "loans") = some false := by
  show (if SeqAt.shaped (.str "trips") = true ∧ SeqAt.shaped (.str "loans") = true then some (PyData.eqv (.str "trips") (.str "loans")) else none) = _
  rw [if_pos (by decide +kernel)]
  rw [show PyData.eqv (.str "trips") (.str "loans") = false by decide +kernel]
theorem cut_to (xs : List PyData) (p : Nat) (h : p ≤ xs.length) : cutP xs none (some (p : Int)) = xs.take p := by
  unfold cutP
  rw [HT.sIx_nat, HT.sIx_none, Nat.min_eq_left h]
  simp
theorem cut_from (xs : List PyData) (p : Nat) (h : p ≤ xs.length) : cutP xs (some (p : Int)) none = xs.drop p := by
  unfold cutP
  rw [HT.sIx_nat, HT.sIx_none, Nat.min_eq_left h, List.take_of_length_le]
  rw [List.length_drop]; exact Nat.le_refl _
theorem bools_true : ∀ xs : List PyData, boolsOf (xs.map fun _ => PyData.bool true) = some (xs.map fun _ => true)
  | [] => rfl
  | x :: r => by
    show (boolsOf (r.map fun _ => PyData.bool true)).map (true :: ·) = _
    rw [bools_true r]; rfl
theorem all_true (xs : List PyData) : (xs.map fun _ => true).all id = true := by
  rw [List.all_eq_true]
  intro x hx
  obtain ⟨_, _, rfl⟩ := List.mem_map.mp hx
  rfl
variable {T : String → Option Fn} {wn : Nat} {S : Sto} (t : TT T)
include t
theorem is_row_i (hS : Cl S) (d : Nat) {n p : Nat} {r : List Nat} (hl : r.length = n) (hn : n ≤ 40) (hp : p < n) (h0 : r.getD p 1 = 0) (h : ∀ b, b < n → b ≠ p → 1 ≤ r.getD b 0 ∧ r.getD b 0 ≤ 200) :
    callF T wn (d + 2) "_is_row" [.d (.int n), .d (.int p), .d (.tuple (nats r))] S = .ok (.d (.bool true)) S := by
  have e0 : ixP (.tuple (nats r)) (.int (p : Nat)) = some (.int 0) := by
    refine atI_nat ?_
    unfold nats
    rw [List.getElem?_map, List.getElem?_eq_getElem (by omega)]
    have : r[p]'(by omega) = 0 := by rw [← h0]; simp [List.getD, show p < r.length by omega]
    simp [this]
  have q1 : callF T wn (d + 1) "is_numbers" [.d (.tuple (nats r)), .d (.int n)] S = .ok (.d (.bool true)) S := by
    have := is_numbers_i t.n.l.w (wn := wn) hS d (r.map fun (x : Nat) => (x : Int))
    rw [List.map_map, List.length_map, hl] at this
    exact this
  have s1 : cutP (nats r) none (some (p : Int)) = (nats r).take p := cut_to _ _ (by rw [nats_len]; omega)
  have s2 : cutP (nats r) (some ((p : Int) + 1)) none = (nats r).drop (p + 1) := by
    rw [show (p : Int) + 1 = ((p + 1 : Nat) : Int) by omega]
    exact cut_from _ _ (by rw [nats_len]; omega)
  have ha : binP .add (.tuple ((nats r).take p)) (.tuple ((nats r).drop (p + 1))) = some (.tuple ((nats r).take p ++ (nats r).drop (p + 1))) := by
    show (if ((nats r).take p).length + ((nats r).drop (p + 1)).length ≤ LIM then some (PyData.tuple ((nats r).take p ++ (nats r).drop (p + 1))) else none) = _
    rw [if_pos (by rw [List.length_take, List.length_drop, nats_len]; unfold LIM; omega)]
  have hlen : ((nats r).take p ++ (nats r).drop (p + 1)).length ≤ LIM := by rw [List.length_append, List.length_take, List.length_drop, nats_len]; unfold LIM; omega
  have mem : ∀ x, x ∈ (nats r).take p ++ (nats r).drop (p + 1) → ∃ y : Nat, x = .int y ∧ 1 ≤ y ∧ y ≤ 200 := by
    intro x hx
    have : ∃ i, i < n ∧ i ≠ p ∧ (nats r)[i]? = some x := by
      rcases List.mem_append.mp hx with m | m
      · obtain ⟨i, hi, e⟩ := List.getElem_of_mem m
        rw [List.length_take, nats_len] at hi
        exact ⟨i, by omega, by omega, by rw [List.getElem_take] at e; rw [← e]; exact List.getElem?_eq_getElem _⟩
      · obtain ⟨i, hi, e⟩ := List.getElem_of_mem m
        rw [List.length_drop, nats_len] at hi
        exact ⟨p + 1 + i, by omega, by omega, by rw [List.getElem_drop] at e; rw [← e]; exact List.getElem?_eq_getElem _⟩
    obtain ⟨i, hi, hip, e⟩ := this
    unfold nats at e
    rw [List.getElem?_map, List.getElem?_eq_getElem (by omega)] at e
    have hb := h i hi hip
    rw [getD_lt (by omega)] at hb
    exact ⟨r[i]'(by omega), (Option.some.inj e).symm, hb⟩
  rw [callF_eq t.is_row rfl, C.t__is_row]
  simp only [startL, List.map_cons, List.map_nil, List.length_cons, List.length_nil, List.replicate, List.replicate_succ, List.replicate_zero, List.cons_append, List.nil_append, List.append_nil, Nat.reduceAdd, Nat.reduceSub, Nat.zero_add, ↓evalE_popAt, ↓evalI_range1, ↓evalI_range2, ↓evalE_mul, ↓evalE_mod, ↓evalE_fdiv, ↓evalE_pow, evalSs, evalS, evalE, evalEs, evalT, evalI, evalO, evalC, SRes.seq_next, SRes.seq_ret, SRes.seq_err, SRes.seq_brk, SRes.seq_cnt, SRes.seq_stuck, Res.bind_ok, Res.bind_err, Res.bind_stuck, Res.st_ok, Res.st_err, Res.st_stuck, ofO_some, ofO_none, asP_d, getV_z, getV_s, Option.bind_some, Option.map_some, Option.bind_none, Option.map_none, biP, on1, ints2, unD, mkL_f, mkL_t, plain_d, truthP, List.set_cons_zero, List.set_cons_succ, ofOS, unpackV, setAll, setAllD, bindT, ite_tru, ite_fls, if_true, if_false, reduceIte, Bool.false_eq_true, Bool.not_true, Bool.not_false, retv_ok, isi_int, isi_bool, isi_tup, bLen, seqV, seqP_t, seqP_l, lstP, intsV, eq_i, ne_i, le_i, lt_i, gt_i, ge_i, add_i, sub_i, itemsOf, enumOf, Int.cast_ofNat_Int, Int.natCast_one, List.length_map, Int.reduceEq, Int.reduceLT, Int.reduceLE, q1, e0, decide_true, s1, s2, ha, if_pos hlen]
  rw [comp_map (g := fun _ => .bool true) rfl]
  · simp only [noErr_ok, ↓evalE_popAt, ↓evalI_range1, ↓evalI_range2, ↓evalE_mul, ↓evalE_mod, ↓evalE_fdiv, ↓evalE_pow, evalSs, evalS, evalE, evalEs, evalT, evalI, evalO, evalC, SRes.seq_next, SRes.seq_ret, SRes.seq_err, SRes.seq_brk, SRes.seq_cnt, SRes.seq_stuck, Res.bind_ok, Res.bind_err, Res.bind_stuck, Res.st_ok, Res.st_err, Res.st_stuck, ofO_some, ofO_none, asP_d, getV_z, getV_s, Option.bind_some, Option.map_some, Option.bind_none, Option.map_none, biP, on1, ints2, unD, mkL_f, mkL_t, plain_d, truthP, List.set_cons_zero, List.set_cons_succ, ofOS, unpackV, setAll, setAllD, bindT, ite_tru, ite_fls, if_true, if_false, reduceIte, Bool.false_eq_true, Bool.not_true, Bool.not_false, retv_ok, isi_int, isi_bool, isi_tup, bLen, seqV, seqP_t, seqP_l, lstP, intsV, eq_i, ne_i, le_i, lt_i, gt_i, ge_i, add_i, sub_i, itemsOf, enumOf, Int.cast_ofNat_Int, Int.natCast_one, List.length_map, Int.reduceEq, Int.reduceLT, Int.reduceLE, List.nil_append, bools_true, all_true, retv_ok hS]
  · intro x hx
    obtain ⟨y, rfl, y1, y2⟩ := mem x hx
    have c1 : (1 : Int) ≤ (y : Int) := by omega
    have c2 : (y : Int) ≤ 200 := by omega
    simp only [compF, wipeL, ↓evalE_popAt, ↓evalI_range1, ↓evalI_range2, ↓evalE_mul, ↓evalE_mod, ↓evalE_fdiv, ↓evalE_pow, evalSs, evalS, evalE, evalEs, evalT, evalI, evalO, evalC, SRes.seq_next, SRes.seq_ret, SRes.seq_err, SRes.seq_brk, SRes.seq_cnt, SRes.seq_stuck, Res.bind_ok, Res.bind_err, Res.bind_stuck, Res.st_ok, Res.st_err, Res.st_stuck, ofO_some, ofO_none, asP_d, getV_z, getV_s, Option.bind_some, Option.map_some, Option.bind_none, Option.map_none, biP, on1, ints2, unD, mkL_f, mkL_t, plain_d, truthP, List.set_cons_zero, List.set_cons_succ, ofOS, unpackV, setAll, setAllD, bindT, ite_tru, ite_fls, if_true, if_false, reduceIte, Bool.false_eq_true, Bool.not_true, Bool.not_false, retv_ok, isi_int, isi_bool, isi_tup, bLen, seqV, seqP_t, seqP_l, lstP, intsV, eq_i, ne_i, le_i, lt_i, gt_i, ge_i, add_i, sub_i, itemsOf, enumOf, Int.cast_ofNat_Int, Int.natCast_one, List.length_map, Int.reduceEq, Int.reduceLT, Int.reduceLE, c1, c2, decide_true]
theorem is_table_i (hS : Cl S) (d : Nat) {n : Nat} {tb : List (List Nat)} (h : TabOk n tb) (hn : n ≤ 40) : callF T wn (d + 3) "_is_table" [.d (.int n), .d (tabP tb)] S = .ok (.d (.bool true)) S := by
  have en : ∀ (xs : List PyData) (k i : Nat) (x : PyData), (enumF k xs)[i]? = some x → ∃ y, xs[i]? = some y ∧ x = .tuple [.int ((k + i : Nat) : Int), y] := by
    intro xs
    induction xs with
    | nil => intro k i x e; simp [enumF] at e
    | cons a xs ih =>
      intro k i x e
      unfold enumF at e
      cases i with
      | zero => simp only [List.getElem?_cons_zero, Option.some.injEq] at e; exact ⟨a, rfl, e.symm⟩
      | succ i =>
        rw [List.getElem?_cons_succ] at e
        obtain ⟨y, e1, e2⟩ := ih (k + 1) i x e
        exact ⟨y, by rw [List.getElem?_cons_succ]; exact e1, by rw [e2]; congr 3; omega⟩
  have el : ∀ (xs : List PyData) (k : Nat), (enumF k xs).length = xs.length := by
    intro xs
    induction xs with
    | nil => intro k; rfl
    | cons a xs ih => intro k; unfold enumF; simp [ih]
  have e1 : isiP "tuple" (tabP tb) = some true := rfl
  have e2 : seqP (tabP tb) = some (tb.map fun r => .tuple (nats r)) := rfl
  have hlen : (enumF 0 (tb.map fun r => PyData.tuple (nats r))).length ≤ LIM := by rw [el, List.length_map, h.len]; unfold LIM; omega
  rw [callF_eq t.is_table rfl, C.t__is_table]
  simp only [startL, List.map_cons, List.map_nil, List.length_cons, List.length_nil, List.replicate, List.replicate_succ, List.replicate_zero, List.cons_append, List.nil_append, List.append_nil, Nat.reduceAdd, Nat.reduceSub, Nat.zero_add, ↓evalE_popAt, ↓evalI_range1, ↓evalI_range2, ↓evalE_mul, ↓evalE_mod, ↓evalE_fdiv, ↓evalE_pow, evalSs, evalS, evalE, evalEs, evalT, evalI, evalO, evalC, SRes.seq_next, SRes.seq_ret, SRes.seq_err, SRes.seq_brk, SRes.seq_cnt, SRes.seq_stuck, Res.bind_ok, Res.bind_err, Res.bind_stuck, Res.st_ok, Res.st_err, Res.st_stuck, ofO_some, ofO_none, asP_d, getV_z, getV_s, Option.bind_some, Option.map_some, Option.bind_none, Option.map_none, biP, on1, ints2, unD, mkL_f, mkL_t, plain_d, truthP, List.set_cons_zero, List.set_cons_succ, ofOS, unpackV, setAll, setAllD, bindT, ite_tru, ite_fls, if_true, if_false, reduceIte, Bool.false_eq_true, Bool.not_true, Bool.not_false, retv_ok, isi_int, isi_bool, isi_tup, bLen, seqV, seqP_t, seqP_l, lstP, intsV, eq_i, ne_i, le_i, lt_i, gt_i, ge_i, add_i, sub_i, itemsOf, enumOf, Int.cast_ofNat_Int, Int.natCast_one, List.length_map, Int.reduceEq, Int.reduceLT, Int.reduceLE, e1, e2, h.len, decide_true, if_pos hlen]
  rw [comp_map (g := fun _ => .bool true) rfl]
  · simp only [noErr_ok, ↓evalE_popAt, ↓evalI_range1, ↓evalI_range2, ↓evalE_mul, ↓evalE_mod, ↓evalE_fdiv, ↓evalE_pow, evalSs, evalS, evalE, evalEs, evalT, evalI, evalO, evalC, SRes.seq_next, SRes.seq_ret, SRes.seq_err, SRes.seq_brk, SRes.seq_cnt, SRes.seq_stuck, Res.bind_ok, Res.bind_err, Res.bind_stuck, Res.st_ok, Res.st_err, Res.st_stuck, ofO_some, ofO_none, asP_d, getV_z, getV_s, Option.bind_some, Option.map_some, Option.bind_none, Option.map_none, biP, on1, ints2, unD, mkL_f, mkL_t, plain_d, truthP, List.set_cons_zero, List.set_cons_succ, ofOS, unpackV, setAll, setAllD, bindT, ite_tru, ite_fls, if_true, if_false, reduceIte, Bool.false_eq_true, Bool.not_true, Bool.not_false, retv_ok, isi_int, isi_bool, isi_tup, bLen, seqV, seqP_t, seqP_l, lstP, intsV, eq_i, ne_i, le_i, lt_i, gt_i, ge_i, add_i, sub_i, itemsOf, enumOf, Int.cast_ofNat_Int, Int.natCast_one, List.length_map, Int.reduceEq, Int.reduceLT, Int.reduceLE, List.nil_append, bools_true, all_true, retv_ok hS]
  · intro x hx
    obtain ⟨i, hi, e⟩ := List.getElem_of_mem hx
    obtain ⟨y, ey, rfl⟩ := en _ 0 i x (by rw [← e]; exact List.getElem?_eq_getElem _)
    rw [List.getElem?_map] at ey
    obtain ⟨r, er, rfl⟩ := Option.map_eq_some_iff.mp ey
    obtain ⟨hi2, er2⟩ := List.getElem?_eq_some_iff.mp er
    have q := is_row_i (wn := wn) t hS d (n := n) (p := i) (r := r) (h.row r (List.mem_of_getElem? er)) hn (by rw [← h.len]; exact hi2) (by have := h.zero i hi2; rwa [er2] at this) (fun b hb hbi => by have := h.ok i b hi2 hb hbi; rwa [er2] at this)
    rw [Nat.zero_add]
    simp only [compF, wipeL, ↓evalE_popAt, ↓evalI_range1, ↓evalI_range2, ↓evalE_mul, ↓evalE_mod, ↓evalE_fdiv, ↓evalE_pow, evalSs, evalS, evalE, evalEs, evalT, evalI, evalO, evalC, SRes.seq_next, SRes.seq_ret, SRes.seq_err, SRes.seq_brk, SRes.seq_cnt, SRes.seq_stuck, Res.bind_ok, Res.bind_err, Res.bind_stuck, Res.st_ok, Res.st_err, Res.st_stuck, ofO_some, ofO_none, asP_d, getV_z, getV_s, Option.bind_some, Option.map_some, Option.bind_none, Option.map_none, biP, on1, ints2, unD, mkL_f, mkL_t, plain_d, truthP, List.set_cons_zero, List.set_cons_succ, ofOS, unpackV, setAll, setAllD, bindT, ite_tru, ite_fls, if_true, if_false, reduceIte, Bool.false_eq_true, Bool.not_true, Bool.not_false, retv_ok, isi_int, isi_bool, isi_tup, bLen, seqV, seqP_t, seqP_l, lstP, intsV, eq_i, ne_i, le_i, lt_i, gt_i, ge_i, add_i, sub_i, itemsOf, enumOf, Int.cast_ofNat_Int, Int.natCast_one, List.length_map, Int.reduceEq, Int.reduceLT, Int.reduceLE, q]
theorem fresh_nat_row (hS : Cl S) (d : Nat) {r : List Nat} (hl : r.length ≤ 1000) : callF T wn (d + 1) "fresh" [.d (.tuple (nats r))] S = .ok (.d (.tuple (nats r))) S := by
  have hlen : r.length ≤ LIM := by unfold LIM; omega
  rw [callF_eq t.n.fresh rfl, C.t_fresh]
  simp only [startL, List.map_cons, List.map_nil, List.length_cons, List.length_nil, List.replicate, List.replicate_succ, List.replicate_zero, List.cons_append, List.nil_append, List.append_nil, Nat.reduceAdd, Nat.reduceSub, Nat.zero_add, ↓evalE_popAt, ↓evalI_range1, ↓evalI_range2, ↓evalE_mul, ↓evalE_mod, ↓evalE_fdiv, ↓evalE_pow, evalSs, evalS, evalE, evalEs, evalT, evalI, evalO, evalC, SRes.seq_next, SRes.seq_ret, SRes.seq_err, SRes.seq_brk, SRes.seq_cnt, SRes.seq_stuck, Res.bind_ok, Res.bind_err, Res.bind_stuck, Res.st_ok, Res.st_err, Res.st_stuck, ofO_some, ofO_none, asP_d, getV_z, getV_s, Option.bind_some, Option.map_some, Option.bind_none, Option.map_none, biP, on1, ints2, unD, mkL_f, mkL_t, plain_d, truthP, List.set_cons_zero, List.set_cons_succ, ofOS, unpackV, setAll, setAllD, bindT, ite_tru, ite_fls, if_true, if_false, reduceIte, Bool.false_eq_true, Bool.not_true, Bool.not_false, retv_ok, isi_int, isi_bool, isi_tup, bLen, seqV, seqP_t, seqP_l, lstP, intsV, eq_i, ne_i, le_i, lt_i, gt_i, ge_i, add_i, sub_i, itemsOf, enumOf, Int.cast_ofNat_Int, Int.natCast_one, List.length_map, Int.reduceEq, Int.reduceLT, Int.reduceLE, nats_len, if_pos hlen]
  rw [comp_map (g := id) rfl]
  · simp only [noErr_ok, ↓evalE_popAt, ↓evalI_range1, ↓evalI_range2, ↓evalE_mul, ↓evalE_mod, ↓evalE_fdiv, ↓evalE_pow, evalSs, evalS, evalE, evalEs, evalT, evalI, evalO, evalC, SRes.seq_next, SRes.seq_ret, SRes.seq_err, SRes.seq_brk, SRes.seq_cnt, SRes.seq_stuck, Res.bind_ok, Res.bind_err, Res.bind_stuck, Res.st_ok, Res.st_err, Res.st_stuck, ofO_some, ofO_none, asP_d, getV_z, getV_s, Option.bind_some, Option.map_some, Option.bind_none, Option.map_none, biP, on1, ints2, unD, mkL_f, mkL_t, plain_d, truthP, List.set_cons_zero, List.set_cons_succ, ofOS, unpackV, setAll, setAllD, bindT, ite_tru, ite_fls, if_true, if_false, reduceIte, Bool.false_eq_true, Bool.not_true, Bool.not_false, retv_ok, isi_int, isi_bool, isi_tup, bLen, seqV, seqP_t, seqP_l, lstP, intsV, eq_i, ne_i, le_i, lt_i, gt_i, ge_i, add_i, sub_i, itemsOf, enumOf, Int.cast_ofNat_Int, Int.natCast_one, List.length_map, Int.reduceEq, Int.reduceLT, Int.reduceLE, List.nil_append, List.map_id, retv_ok hS]
  · intro x hx
    obtain ⟨y, _, rfl⟩ := List.mem_map.mp hx
    have nt : isiP "tuple" (.int (y : Int)) = some false := rfl
    simp only [compF, wipeL, ↓evalE_popAt, ↓evalI_range1, ↓evalI_range2, ↓evalE_mul, ↓evalE_mod, ↓evalE_fdiv, ↓evalE_pow, evalSs, evalS, evalE, evalEs, evalT, evalI, evalO, evalC, SRes.seq_next, SRes.seq_ret, SRes.seq_err, SRes.seq_brk, SRes.seq_cnt, SRes.seq_stuck, Res.bind_ok, Res.bind_err, Res.bind_stuck, Res.st_ok, Res.st_err, Res.st_stuck, ofO_some, ofO_none, asP_d, getV_z, getV_s, Option.bind_some, Option.map_some, Option.bind_none, Option.map_none, biP, on1, ints2, unD, mkL_f, mkL_t, plain_d, truthP, List.set_cons_zero, List.set_cons_succ, ofOS, unpackV, setAll, setAllD, bindT, ite_tru, ite_fls, if_true, if_false, reduceIte, Bool.false_eq_true, Bool.not_true, Bool.not_false, retv_ok, nt, id]
theorem fresh_tab (hS : Cl S) (d : Nat) {n : Nat} {tb : List (List Nat)} (h : TabOk n tb) (hn : n ≤ 40) : callF T wn (d + 2) "fresh" [.d (tabP tb)] S = .ok (.d (tabP tb)) S := by
  have e1 : isiP "tuple" (tabP tb) = some true := rfl
  have e2 : seqP (tabP tb) = some (tb.map fun r => .tuple (nats r)) := rfl
  have hlen : tb.length ≤ LIM := by rw [h.len]; unfold LIM; omega
  rw [callF_eq t.n.fresh rfl, C.t_fresh]
  simp only [startL, List.map_cons, List.map_nil, List.length_cons, List.length_nil, List.replicate, List.replicate_succ, List.replicate_zero, List.cons_append, List.nil_append, List.append_nil, Nat.reduceAdd, Nat.reduceSub, Nat.zero_add, ↓evalE_popAt, ↓evalI_range1, ↓evalI_range2, ↓evalE_mul, ↓evalE_mod, ↓evalE_fdiv, ↓evalE_pow, evalSs, evalS, evalE, evalEs, evalT, evalI, evalO, evalC, SRes.seq_next, SRes.seq_ret, SRes.seq_err, SRes.seq_brk, SRes.seq_cnt, SRes.seq_stuck, Res.bind_ok, Res.bind_err, Res.bind_stuck, Res.st_ok, Res.st_err, Res.st_stuck, ofO_some, ofO_none, asP_d, getV_z, getV_s, Option.bind_some, Option.map_some, Option.bind_none, Option.map_none, biP, on1, ints2, unD, mkL_f, mkL_t, plain_d, truthP, List.set_cons_zero, List.set_cons_succ, ofOS, unpackV, setAll, setAllD, bindT, ite_tru, ite_fls, if_true, if_false, reduceIte, Bool.false_eq_true, Bool.not_true, Bool.not_false, retv_ok, isi_int, isi_bool, isi_tup, bLen, seqV, seqP_t, seqP_l, lstP, intsV, eq_i, ne_i, le_i, lt_i, gt_i, ge_i, add_i, sub_i, itemsOf, enumOf, Int.cast_ofNat_Int, Int.natCast_one, List.length_map, Int.reduceEq, Int.reduceLT, Int.reduceLE, e1, e2, if_pos hlen]
  rw [comp_map (g := id) rfl]
  · simp only [noErr_ok, ↓evalE_popAt, ↓evalI_range1, ↓evalI_range2, ↓evalE_mul, ↓evalE_mod, ↓evalE_fdiv, ↓evalE_pow, evalSs, evalS, evalE, evalEs, evalT, evalI, evalO, evalC, SRes.seq_next, SRes.seq_ret, SRes.seq_err, SRes.seq_brk, SRes.seq_cnt, SRes.seq_stuck, Res.bind_ok, Res.bind_err, Res.bind_stuck, Res.st_ok, Res.st_err, Res.st_stuck, ofO_some, ofO_none, asP_d, getV_z, getV_s, Option.bind_some, Option.map_some, Option.bind_none, Option.map_none, biP, on1, ints2, unD, mkL_f, mkL_t, plain_d, truthP, List.set_cons_zero, List.set_cons_succ, ofOS, unpackV, setAll, setAllD, bindT, ite_tru, ite_fls, if_true, if_false, reduceIte, Bool.false_eq_true, Bool.not_true, Bool.not_false, retv_ok, isi_int, isi_bool, isi_tup, bLen, seqV, seqP_t, seqP_l, lstP, intsV, eq_i, ne_i, le_i, lt_i, gt_i, ge_i, add_i, sub_i, itemsOf, enumOf, Int.cast_ofNat_Int, Int.natCast_one, List.length_map, Int.reduceEq, Int.reduceLT, Int.reduceLE, List.nil_append, List.map_id, retv_ok hS]
    rfl
  · intro x hx
    obtain ⟨r, hr, rfl⟩ := List.mem_map.mp hx
    have q := fresh_nat_row (wn := wn) t hS d (r := r) (by rw [h.row r hr]; omega)
    simp only [compF, wipeL, ↓evalE_popAt, ↓evalI_range1, ↓evalI_range2, ↓evalE_mul, ↓evalE_mod, ↓evalE_fdiv, ↓evalE_pow, evalSs, evalS, evalE, evalEs, evalT, evalI, evalO, evalC, SRes.seq_next, SRes.seq_ret, SRes.seq_err, SRes.seq_brk, SRes.seq_cnt, SRes.seq_stuck, Res.bind_ok, Res.bind_err, Res.bind_stuck, Res.st_ok, Res.st_err, Res.st_stuck, ofO_some, ofO_none, asP_d, getV_z, getV_s, Option.bind_some, Option.map_some, Option.bind_none, Option.map_none, biP, on1, ints2, unD, mkL_f, mkL_t, plain_d, truthP, List.set_cons_zero, List.set_cons_succ, ofOS, unpackV, setAll, setAllD, bindT, ite_tru, ite_fls, if_true, if_false, reduceIte, Bool.false_eq_true, Bool.not_true, Bool.not_false, retv_ok, isi_int, isi_bool, isi_tup, bLen, seqV, seqP_t, seqP_l, lstP, intsV, eq_i, ne_i, le_i, lt_i, gt_i, ge_i, add_i, sub_i, itemsOf, enumOf, Int.cast_ofNat_Int, Int.natCast_one, List.length_map, Int.reduceEq, Int.reduceLT, Int.reduceLE, q, id]
theorem fresh_trips (hS : Cl S) (d : Nat) {n k : Nat} {tb : List (List Nat)} (h : TabOk n tb) (hn : n ≤ 40) : callF T wn (d + 3) "fresh" [.d (trips k tb)] S = .ok (.d (trips k tb)) S := by
  have e1 : isiP "tuple" (trips k tb) = some true := rfl
  have e2 : seqP (trips k tb) = some [.str "trips", .int k, tabP tb] := rfl
  have hlen : (3 : Nat) ≤ LIM := by decide
  rw [callF_eq t.n.fresh rfl, C.t_fresh]
  simp only [startL, List.map_cons, List.map_nil, List.length_cons, List.length_nil, List.replicate, List.replicate_succ, List.replicate_zero, List.cons_append, List.nil_append, List.append_nil, Nat.reduceAdd, Nat.reduceSub, Nat.zero_add, ↓evalE_popAt, ↓evalI_range1, ↓evalI_range2, ↓evalE_mul, ↓evalE_mod, ↓evalE_fdiv, ↓evalE_pow, evalSs, evalS, evalE, evalEs, evalT, evalI, evalO, evalC, SRes.seq_next, SRes.seq_ret, SRes.seq_err, SRes.seq_brk, SRes.seq_cnt, SRes.seq_stuck, Res.bind_ok, Res.bind_err, Res.bind_stuck, Res.st_ok, Res.st_err, Res.st_stuck, ofO_some, ofO_none, asP_d, getV_z, getV_s, Option.bind_some, Option.map_some, Option.bind_none, Option.map_none, biP, on1, ints2, unD, mkL_f, mkL_t, plain_d, truthP, List.set_cons_zero, List.set_cons_succ, ofOS, unpackV, setAll, setAllD, bindT, ite_tru, ite_fls, if_true, if_false, reduceIte, Bool.false_eq_true, Bool.not_true, Bool.not_false, retv_ok, isi_int, isi_bool, isi_tup, bLen, seqV, seqP_t, seqP_l, lstP, intsV, eq_i, ne_i, le_i, lt_i, gt_i, ge_i, add_i, sub_i, itemsOf, enumOf, Int.cast_ofNat_Int, Int.natCast_one, List.length_map, Int.reduceEq, Int.reduceLT, Int.reduceLE, e1, e2, if_pos hlen]
  rw [comp_map (g := id) rfl]
  · simp only [noErr_ok, ↓evalE_popAt, ↓evalI_range1, ↓evalI_range2, ↓evalE_mul, ↓evalE_mod, ↓evalE_fdiv, ↓evalE_pow, evalSs, evalS, evalE, evalEs, evalT, evalI, evalO, evalC, SRes.seq_next, SRes.seq_ret, SRes.seq_err, SRes.seq_brk, SRes.seq_cnt, SRes.seq_stuck, Res.bind_ok, Res.bind_err, Res.bind_stuck, Res.st_ok, Res.st_err, Res.st_stuck, ofO_some, ofO_none, asP_d, getV_z, getV_s, Option.bind_some, Option.map_some, Option.bind_none, Option.map_none, biP, on1, ints2, unD, mkL_f, mkL_t, plain_d, truthP, List.set_cons_zero, List.set_cons_succ, ofOS, unpackV, setAll, setAllD, bindT, ite_tru, ite_fls, if_true, if_false, reduceIte, Bool.false_eq_true, Bool.not_true, Bool.not_false, retv_ok, isi_int, isi_bool, isi_tup, bLen, seqV, seqP_t, seqP_l, lstP, intsV, eq_i, ne_i, le_i, lt_i, gt_i, ge_i, add_i, sub_i, itemsOf, enumOf, Int.cast_ofNat_Int, Int.natCast_one, List.length_map, Int.reduceEq, Int.reduceLT, Int.reduceLE, List.nil_append, List.map_id, retv_ok hS]
    rfl
  · intro x hx
    simp only [List.mem_cons, List.not_mem_nil, or_false] at hx
    have q := fresh_tab (wn := wn) t hS d h hn
    have n1 : isiP "tuple" (.str "trips") = some false := rfl
    have n2 : isiP "tuple" (.int (k : Int)) = some false := rfl
    have n3 : isiP "tuple" (tabP tb) = some true := rfl
    rcases hx with e | e | e <;> rw [e] <;> simp only [compF, wipeL, ↓evalE_popAt, ↓evalI_range1, ↓evalI_range2, ↓evalE_mul, ↓evalE_mod, ↓evalE_fdiv, ↓evalE_pow, evalSs, evalS, evalE, evalEs, evalT, evalI, evalO, evalC, SRes.seq_next, SRes.seq_ret, SRes.seq_err, SRes.seq_brk, SRes.seq_cnt, SRes.seq_stuck, Res.bind_ok, Res.bind_err, Res.bind_stuck, Res.st_ok, Res.st_err, Res.st_stuck, ofO_some, ofO_none, asP_d, getV_z, getV_s, Option.bind_some, Option.map_some, Option.bind_none, Option.map_none, biP, on1, ints2, unD, mkL_f, mkL_t, plain_d, truthP, List.set_cons_zero, List.set_cons_succ, ofOS, unpackV, setAll, setAllD, bindT, ite_tru, ite_fls, if_true, if_false, reduceIte, Bool.false_eq_true, Bool.not_true, Bool.not_false, retv_ok, n1, n2, n3, q, id]
theorem checked_trips (hS : Cl S) (d : Nat) {n k : Nat} {tb : List (List Nat)} (h : TabOk n tb) (hn1 : 2 ≤ n) (hn : n ≤ 40) (k1 : 1 ≤ k) (k20 : k ≤ 20) : callF T wn (d + 5) "checked_terms" [.d (.int n), .d (trips k tb)] S = .ok (.d (trips k tb)) S := by
  have b1 : ∀ d, callF T wn (d + 1) "_begins" [.d (trips k tb), .d (.str "loans"), .d (.int 4)] S = .ok (.d (.bool false)) S := fun d => by
    rw [callF_eq t.n.begins rfl, C.t__begins]
    simp only [trips, startL, List.map_cons, List.map_nil, List.length_cons, List.length_nil, List.replicate, List.replicate_succ, List.replicate_zero, List.cons_append, List.nil_append, List.append_nil, Nat.reduceAdd, Nat.reduceSub, Nat.zero_add, ↓evalE_popAt, ↓evalI_range1, ↓evalI_range2, ↓evalE_mul, ↓evalE_mod, ↓evalE_fdiv, ↓evalE_pow, evalSs, evalS, evalE, evalEs, evalT, evalI, evalO, evalC, SRes.seq_next, SRes.seq_ret, SRes.seq_err, SRes.seq_brk, SRes.seq_cnt, SRes.seq_stuck, Res.bind_ok, Res.bind_err, Res.bind_stuck, Res.st_ok, Res.st_err, Res.st_stuck, ofO_some, ofO_none, asP_d, getV_z, getV_s, Option.bind_some, Option.map_some, Option.bind_none, Option.map_none, biP, on1, ints2, unD, mkL_f, mkL_t, plain_d, truthP, List.set_cons_zero, List.set_cons_succ, ofOS, unpackV, setAll, setAllD, bindT, ite_tru, ite_fls, if_true, if_false, reduceIte, Bool.false_eq_true, Bool.not_true, Bool.not_false, retv_ok, isi_int, isi_bool, isi_tup, bLen, seqV, seqP_t, seqP_l, lstP, intsV, eq_i, ne_i, le_i, lt_i, gt_i, ge_i, add_i, sub_i, itemsOf, enumOf, Int.cast_ofNat_Int, Int.natCast_one, List.length_map, Int.reduceEq, Int.reduceLT, Int.reduceLE, decide_false, retv_ok hS]
  have b2 : ∀ d, callF T wn (d + 1) "_begins" [.d (trips k tb), .d (.str "trips"), .d (.int 3)] S = .ok (.d (.bool true)) S := fun d => by
    rw [callF_eq t.n.begins rfl, C.t__begins]
    have e0 : ixP (.tuple [.str "trips", .int k, tabP tb]) (.int 0) = some (.str "trips") := rfl
    simp only [trips, startL, List.map_cons, List.map_nil, List.length_cons, List.length_nil, List.replicate, List.replicate_succ, List.replicate_zero, List.cons_append, List.nil_append, List.append_nil, Nat.reduceAdd, Nat.reduceSub, Nat.zero_add, ↓evalE_popAt, ↓evalI_range1, ↓evalI_range2, ↓evalE_mul, ↓evalE_mod, ↓evalE_fdiv, ↓evalE_pow, evalSs, evalS, evalE, evalEs, evalT, evalI, evalO, evalC, SRes.seq_next, SRes.seq_ret, SRes.seq_err, SRes.seq_brk, SRes.seq_cnt, SRes.seq_stuck, Res.bind_ok, Res.bind_err, Res.bind_stuck, Res.st_ok, Res.st_err, Res.st_stuck, ofO_some, ofO_none, asP_d, getV_z, getV_s, Option.bind_some, Option.map_some, Option.bind_none, Option.map_none, biP, on1, ints2, unD, mkL_f, mkL_t, plain_d, truthP, List.set_cons_zero, List.set_cons_succ, ofOS, unpackV, setAll, setAllD, bindT, ite_tru, ite_fls, if_true, if_false, reduceIte, Bool.false_eq_true, Bool.not_true, Bool.not_false, retv_ok, isi_int, isi_bool, isi_tup, bLen, seqV, seqP_t, seqP_l, lstP, intsV, eq_i, ne_i, le_i, lt_i, gt_i, ge_i, add_i, sub_i, itemsOf, enumOf, Int.cast_ofNat_Int, Int.natCast_one, List.length_map, Int.reduceEq, Int.reduceLT, Int.reduceLE, e0, eq_trips, retv_ok hS, decide_true]
  have c : ∀ d, callF T wn (d + 4) "_check_trips" [.d (.int n), .d (trips k tb)] S = .ok (.d .none) S := fun d => by
    rw [callF_eq t.check_trips rfl, C.t__check_trips]
    have e1 : ixP (trips k tb) (.int 1) = some (.int k) := rfl
    have e2 : ixP (trips k tb) (.int 2) = some (tabP tb) := rfl
    have c1 : ¬ (n : Int) = 1 := by omega
    have c2 : (1 : Int) ≤ (k : Int) := by omega
    have c3 : (k : Int) ≤ 20 := by omega
    simp only [startL, List.map_cons, List.map_nil, List.length_cons, List.length_nil, List.replicate, List.replicate_succ, List.replicate_zero, List.cons_append, List.nil_append, List.append_nil, Nat.reduceAdd, Nat.reduceSub, Nat.zero_add, ↓evalE_popAt, ↓evalI_range1, ↓evalI_range2, ↓evalE_mul, ↓evalE_mod, ↓evalE_fdiv, ↓evalE_pow, evalSs, evalS, evalE, evalEs, evalT, evalI, evalO, evalC, SRes.seq_next, SRes.seq_ret, SRes.seq_err, SRes.seq_brk, SRes.seq_cnt, SRes.seq_stuck, Res.bind_ok, Res.bind_err, Res.bind_stuck, Res.st_ok, Res.st_err, Res.st_stuck, ofO_some, ofO_none, asP_d, getV_z, getV_s, Option.bind_some, Option.map_some, Option.bind_none, Option.map_none, biP, on1, ints2, unD, mkL_f, mkL_t, plain_d, truthP, List.set_cons_zero, List.set_cons_succ, ofOS, unpackV, setAll, setAllD, bindT, ite_tru, ite_fls, if_true, if_false, reduceIte, Bool.false_eq_true, Bool.not_true, Bool.not_false, retv_ok, isi_int, isi_bool, isi_tup, bLen, seqV, seqP_t, seqP_l, lstP, intsV, eq_i, ne_i, le_i, lt_i, gt_i, ge_i, add_i, sub_i, itemsOf, enumOf, Int.cast_ofNat_Int, Int.natCast_one, List.length_map, Int.reduceEq, Int.reduceLT, Int.reduceLE, c1, decide_false, e1, e2, is_within_i t.n.l.w hS, c2, c3, and_self, decide_true, is_table_i t hS _ h hn, next_ok hS]
  rw [callF_eq t.n.checked_terms rfl, C.t_checked_terms]
  simp only [startL, List.map_cons, List.map_nil, List.length_cons, List.length_nil, List.replicate, List.replicate_succ, List.replicate_zero, List.cons_append, List.nil_append, List.append_nil, Nat.reduceAdd, Nat.reduceSub, Nat.zero_add, ↓evalE_popAt, ↓evalI_range1, ↓evalI_range2, ↓evalE_mul, ↓evalE_mod, ↓evalE_fdiv, ↓evalE_pow, evalSs, evalS, evalE, evalEs, evalT, evalI, evalO, evalC, SRes.seq_next, SRes.seq_ret, SRes.seq_err, SRes.seq_brk, SRes.seq_cnt, SRes.seq_stuck, Res.bind_ok, Res.bind_err, Res.bind_stuck, Res.st_ok, Res.st_err, Res.st_stuck, ofO_some, ofO_none, asP_d, getV_z, getV_s, Option.bind_some, Option.map_some, Option.bind_none, Option.map_none, biP, on1, ints2, unD, mkL_f, mkL_t, plain_d, truthP, List.set_cons_zero, List.set_cons_succ, ofOS, unpackV, setAll, setAllD, bindT, ite_tru, ite_fls, if_true, if_false, reduceIte, Bool.false_eq_true, Bool.not_true, Bool.not_false, retv_ok, b1, b2, c, fresh_trips t hS _ h hn, retv_ok hS]
theorem made_trips (hS : Cl S) (d : Nat) {n k : Nat} {ls : List Wy} (hw : WebOk n ls) (hl : ls.length < LIM) {tb : List (List Nat)} (h : TabOk n tb) (hn1 : 2 ≤ n) (k1 : 1 ≤ k) (k20 : k ≤ 20) : callF T wn (d + 6) "made_terms" [.d (web n ls), .d (trips k tb)] S = .ok (.d (trips k tb)) S := by
  rw [callF_eq t.n.made_terms rfl, C.t_made_terms]
  simp only [startL, List.map_cons, List.map_nil, List.length_cons, List.length_nil, List.replicate, List.replicate_succ, List.replicate_zero, List.cons_append, List.nil_append, List.append_nil, Nat.reduceAdd, Nat.reduceSub, Nat.zero_add, ↓evalE_popAt, ↓evalI_range1, ↓evalI_range2, ↓evalE_mul, ↓evalE_mod, ↓evalE_fdiv, ↓evalE_pow, evalSs, evalS, evalE, evalEs, evalT, evalI, evalO, evalC, SRes.seq_next, SRes.seq_ret, SRes.seq_err, SRes.seq_brk, SRes.seq_cnt, SRes.seq_stuck, Res.bind_ok, Res.bind_err, Res.bind_stuck, Res.st_ok, Res.st_err, Res.st_stuck, ofO_some, ofO_none, asP_d, getV_z, getV_s, Option.bind_some, Option.map_some, Option.bind_none, Option.map_none, biP, on1, ints2, unD, mkL_f, mkL_t, plain_d, truthP, List.set_cons_zero, List.set_cons_succ, ofOS, unpackV, setAll, setAllD, bindT, ite_tru, ite_fls, if_true, if_false, reduceIte, Bool.false_eq_true, Bool.not_true, Bool.not_false, retv_ok, made_web_i t.n.l.w hS _ hw (Nat.le_of_lt hl)]
  simp only [web, ↓evalE_popAt, ↓evalI_range1, ↓evalI_range2, ↓evalE_mul, ↓evalE_mod, ↓evalE_fdiv, ↓evalE_pow, evalSs, evalS, evalE, evalEs, evalT, evalI, evalO, evalC, SRes.seq_next, SRes.seq_ret, SRes.seq_err, SRes.seq_brk, SRes.seq_cnt, SRes.seq_stuck, Res.bind_ok, Res.bind_err, Res.bind_stuck, Res.st_ok, Res.st_err, Res.st_stuck, ofO_some, ofO_none, asP_d, getV_z, getV_s, Option.bind_some, Option.map_some, Option.bind_none, Option.map_none, biP, on1, ints2, unD, mkL_f, mkL_t, plain_d, truthP, List.set_cons_zero, List.set_cons_succ, ofOS, unpackV, setAll, setAllD, bindT, ite_tru, ite_fls, if_true, if_false, reduceIte, Bool.false_eq_true, Bool.not_true, Bool.not_false, retv_ok, checked_trips t hS _ h hn1 hw.n40 k1 k20, retv_ok hS]
theorem are_trips (hS : Cl S) (d k : Nat) (tb : List (List Nat)) : callF T wn (d + 1) "are_loans" [.d (trips k tb)] S = .ok (.d (.bool false)) S := by
  rw [callF_eq t.n.are_loans rfl, C.t_are_loans]
  have e0 : ixP (trips k tb) (.int 0) = some (.str "trips") := rfl
  simp only [startL, List.map_cons, List.map_nil, List.length_cons, List.length_nil, List.replicate, List.replicate_succ, List.replicate_zero, List.cons_append, List.nil_append, List.append_nil, Nat.reduceAdd, Nat.reduceSub, Nat.zero_add, ↓evalE_popAt, ↓evalI_range1, ↓evalI_range2, ↓evalE_mul, ↓evalE_mod, ↓evalE_fdiv, ↓evalE_pow, evalSs, evalS, evalE, evalEs, evalT, evalI, evalO, evalC, SRes.seq_next, SRes.seq_ret, SRes.seq_err, SRes.seq_brk, SRes.seq_cnt, SRes.seq_stuck, Res.bind_ok, Res.bind_err, Res.bind_stuck, Res.st_ok, Res.st_err, Res.st_stuck, ofO_some, ofO_none, asP_d, getV_z, getV_s, Option.bind_some, Option.map_some, Option.bind_none, Option.map_none, biP, on1, ints2, unD, mkL_f, mkL_t, plain_d, truthP, List.set_cons_zero, List.set_cons_succ, ofOS, unpackV, setAll, setAllD, bindT, ite_tru, ite_fls, if_true, if_false, reduceIte, Bool.false_eq_true, Bool.not_true, Bool.not_false, retv_ok, isi_int, isi_bool, isi_tup, bLen, seqV, seqP_t, seqP_l, lstP, intsV, eq_i, ne_i, le_i, lt_i, gt_i, ge_i, add_i, sub_i, itemsOf, enumOf, Int.cast_ofNat_Int, Int.natCast_one, List.length_map, Int.reduceEq, Int.reduceLT, Int.reduceLE, e0, eq_trips_loans, retv_ok hS]
theorem notice_trips (hT : T "notice_gain" = some C45.t_notice_gain) (hS : Cl S) (d : Nat) {n k : Nat} {ls : List Wy} (hw : WebOk n ls) (hl : ls.length < LIM) {tb : List (List Nat)} (h : TabOk n tb) (hn1 : 2 ≤ n) (k1 : 1 ≤ k) (k20 : k ≤ 20) :
    callF T wn (d + 7) "notice_gain" [.d (web n ls), .d (trips k tb)] S = .ok (.d (.int 0)) S := by
  rw [callF_eq hT rfl, C45.t_notice_gain]
  simp only [startL, List.map_cons, List.map_nil, List.length_cons, List.length_nil, List.replicate, List.replicate_succ, List.replicate_zero, List.cons_append, List.nil_append, List.append_nil, Nat.reduceAdd, Nat.reduceSub, Nat.zero_add, ↓evalE_popAt, ↓evalI_range1, ↓evalI_range2, ↓evalE_mul, ↓evalE_mod, ↓evalE_fdiv, ↓evalE_pow, evalSs, evalS, evalE, evalEs, evalT, evalI, evalO, evalC, SRes.seq_next, SRes.seq_ret, SRes.seq_err, SRes.seq_brk, SRes.seq_cnt, SRes.seq_stuck, Res.bind_ok, Res.bind_err, Res.bind_stuck, Res.st_ok, Res.st_err, Res.st_stuck, ofO_some, ofO_none, asP_d, getV_z, getV_s, Option.bind_some, Option.map_some, Option.bind_none, Option.map_none, biP, on1, ints2, unD, mkL_f, mkL_t, plain_d, truthP, List.set_cons_zero, List.set_cons_succ, ofOS, unpackV, setAll, setAllD, bindT, ite_tru, ite_fls, if_true, if_false, reduceIte, Bool.false_eq_true, Bool.not_true, Bool.not_false, retv_ok, made_trips t hS _ hw hl h hn1 k1 k20, are_trips t hS, retv_ok hS]
end EvP
end
section
set_option maxRecDepth 100000
set_option maxHeartbeats 2000000
/-! EvP17: drawn trips. -/
namespace EvP
open Ev PySem L2 MW
structure PTab (n : Nat) (tb : List (List Nat)) : Prop where
  row : ∀ r, r ∈ tb → r.length = n
  zero : ∀ (a : Nat) (h : a < tb.length), (tb[a]).getD a 1 = 0
  ok : ∀ (a b : Nat) (h : a < tb.length), b < n → b ≠ a → 1 ≤ (tb[a]).getD b 0 ∧ (tb[a]).getD b 0 ≤ 200
theorem PTab.snoc {n : Nat} {tb : List (List Nat)} (h : PTab n tb) {r : List Nat} (hl : r.length = n) (h0 : r.getD tb.length 1 = 0) (hk : ∀ b, b < n → b ≠ tb.length → 1 ≤ r.getD b 0 ∧ r.getD b 0 ≤ 200) : PTab n (tb ++ [r]) := by
  refine ⟨fun x m => ?_, fun a ha => ?_, fun a b ha hb hab => ?_⟩
  · rcases List.mem_append.mp m with e | e
    · exact h.row x e
    · rw [List.mem_singleton.mp e]; exact hl
  · by_cases c : a < tb.length
    · rw [List.getElem_append_left c]; exact h.zero a c
    · have e : a = tb.length := by rw [List.length_append, List.length_singleton] at ha; omega
      subst e
      simpa using h0
  · by_cases c : a < tb.length
    · rw [List.getElem_append_left c]; exact h.ok a b c hb hab
    · have e : a = tb.length := by rw [List.length_append, List.length_singleton] at ha; omega
      subst e
      simpa using hk b hb hab
theorem comp_ints {w : Items} {f : PyData → Sto → Res (Option PyData)} {J : Sto → Prop} {m : Nat} (hw : w.src = none) : ∀ {os : List Nat} {acc : List PyData} {S : Sto},
    (∀ (o : Nat) (S : Sto), J S → ∃ (v : Nat) (S' : Sto), f (.int (o : Nat)) S = .ok (some (.int (v : Nat))) S' ∧ J S' ∧ 1 ≤ v ∧ v ≤ m) → J S →
    ∃ (row : List Nat) (S' : Sto), compLoop w f (nats os) acc S = .ok (acc ++ nats row) S' ∧ J S' ∧ row.length = os.length ∧ ∀ v, v ∈ row → 1 ≤ v ∧ v ≤ m
  | [], acc, S, _, hJ => ⟨[], S, by simp [compLoop, nats], hJ, rfl, by simp⟩
  | o :: os, acc, S, h, hJ => by
    obtain ⟨v, S1, e, hJ1, hd1, hd2⟩ := h o S hJ
    obtain ⟨row, S2, e2, hJ2, hr, hm⟩ := comp_ints (acc := acc ++ [.int (v : Nat)]) (os := os) hw h hJ1
    refine ⟨v :: row, S2, ?_, hJ2, by simp [hr], fun x mx => ?_⟩
    · show compLoop w f (.int (o : Nat) :: nats os) acc S = _
      unfold compLoop
      rw [e]
      have st : still w S1 = true := by unfold still; rw [hw]
      simp only [Res.bind_ok, if_pos st, pushO, e2]
      simp [nats]
    · rcases List.mem_cons.mp mx with q | q
      · subst q; exact ⟨hd1, hd2⟩
      · exact hm x q
theorem atI_nats {L : List Nat} {i : Nat} (h : i < L.length) : atI (nats L) (i : Int) = some (.int (L.getD i 0 : Nat)) := ix_nats h
theorem put_nats {S : Sto} {i : Nat} {L : List Nat} {o : Nat} {v : Nat} (hS : S[i]? = some (.lst (nats L))) (ho : o < L.length) : putIx S (.ref i) (.d (.int (o : Nat))) (.d (.int (v : Nat))) = some (S.set i (.lst (nats (L.set o v)))) := by
  have e : ixN (nats L).length (o : Int) = some o := by
    unfold ixN
    rw [nats_len, if_pos (by omega), if_pos (by omega)]
    simp
  have e2 : (nats L).set o (.int (v : Nat)) = nats (L.set o v) := by unfold nats; rw [List.map_set]
  simp only [putIx, putInt, hS, e, Option.map_some, e2]
theorem top_get (B : Sto) (x : OB) : (B ++ [x])[B.length]? = some x := by simp
theorem top_set (B : Sto) (x y : OB) : (B ++ [x]).set B.length y = B ++ [y] := by simp
theorem mid_get (p : Pool) (R J : Sto) (x : OB) : (pst p ++ (R ++ x :: J))[R.length + 2]? = some x := by
  rw [← List.append_assoc, List.getElem?_append_right (by simp [pst])]; simp [pst]
theorem mid_set (p : Pool) (R J : Sto) (x y : OB) : (pst p ++ (R ++ x :: J)).set (R.length + 2) y = pst p ++ (R ++ y :: J) := by
  have e : R.length + 2 = (pst p).length + R.length := by simp [pst]; omega
  rw [e, List.set_append_right _ _ (by omega)]
  simp
theorem NB.cons {R : Sto} (h : NB R) {o : OB} (ho : ∀ vs, o ≠ .box vs) : NB (o :: R) := fun x m => by
  rcases List.mem_cons.mp m with e | e
  · rw [e]; exact ho
  · exact h x e
theorem NB.app {R Q : Sto} (h : NB R) (h2 : NB Q) : NB (R ++ Q) := fun x m => by
  rcases List.mem_append.mp m with e | e
  · exact h x e
  · exact h2 x e
def rowsP (tb : List (List Nat)) : List PyData := tb.map fun r => .tuple (nats r)
variable {T : String → Option Fn} {wn : Nat} (t : TP T)
include t
theorem table_i (hT : T "_law_term_table" = some C45.t__law_term_table) (d : Nat) {R : Sto} (hR : NB R) (p : Pool) {n m : Nat} (h1 : 1 ≤ n) (h40 : n ≤ 40) (hm1 : 1 ≤ m) (hm : m ≤ 200) :
    ∃ tb p', TabOk n tb ∧ callF T wn (d + 2) "_law_term_table" [.ref 1, .d (.int n), .d (.int m)] (pst p ++ R) = .ok (.d (tabP tb)) (pst p' ++ R) := by
  have D : ∀ {R : Sto} (hR : NB R) (m : Nat) (p : Pool), 0 < m → m < 1000 → ∃ v p', v < m ∧ callF T wn (d + 1) "_law_draw" [.ref 1, .d (.int m)] (pst p ++ R) = .ok (.d (.int (v : Nat))) (pst p' ++ R) := fun hR m p h h2 => draw_i t d hR p h (by omega)
  obtain ⟨f0, p1, hf0, e1⟩ := D hR 997 p (by decide) (by decide)
  obtain ⟨g0, p2, hg0, e2⟩ := D hR 991 p1 (by decide) (by decide)
  obtain ⟨one, p3, hone, e3⟩ := D hR n p2 (by omega) (by omega)
  obtain ⟨other, p4, hoth, e4⟩ := D hR n p3 (by omega) (by omega)
  obtain ⟨y0, p5, hy0, e5⟩ := D hR m p4 (by omega) (by omega)
  simp only [Int.cast_ofNat_Int] at e1 e2
  have ef : (1 : Int) + (f0 : Int) = ((1 + f0 : Nat) : Int) := by omega
  have eg : (1 : Int) + (g0 : Int) = ((1 + g0 : Nat) : Int) := by omega
  have ey : (1 : Int) + (y0 : Int) = ((1 + y0 : Nat) : Int) := by omega
  have hf : 1 + f0 ≤ 997 := by omega
  have hg : 1 + g0 ≤ 991 := by omega
  have hy1 : 1 ≤ 1 + y0 := by omega
  have hy2 : 1 + y0 ≤ m := by omega
  generalize 1 + f0 = far at ef hf
  generalize 1 + g0 = near at eg hg
  generalize 1 + y0 = days at ey hy1 hy2
  have kf := mul_r (b := (far : Int)) (Sm.of (by omega) (by omega))
  have kn := mul_r (b := (near : Int)) (Sm.of (by omega) (by omega))
  have mm := mod_i (b := (m : Int)) (by omega)
  have r1 := rg1_i (n := n) (by omega)
  have rn : rangeP 0 (n : Int) = nats (List.range n) := rangeP_nat n
  have lim : (nats (List.range n)).length ≤ LIM := by rw [nats_len, List.length_range]; unfold LIM; omega
  rw [callF_eq hT rfl, C45.t__law_term_table, pst_len]
  simp only [startL, List.map_cons, List.map_nil, List.length_cons, List.length_nil, List.replicate, List.replicate_succ, List.replicate_zero, List.cons_append, List.nil_append, List.append_nil, Nat.reduceAdd, Nat.reduceSub, Nat.zero_add, ↓evalE_popAt, ↓evalI_range1, ↓evalI_range2, ↓evalE_mul, ↓evalE_mod, ↓evalE_fdiv, ↓evalE_pow, evalSs, evalS, evalE, evalEs, evalT, evalI, evalO, evalC, SRes.seq_next, SRes.seq_ret, SRes.seq_err, SRes.seq_brk, SRes.seq_cnt, SRes.seq_stuck, Res.bind_ok, Res.bind_err, Res.bind_stuck, Res.st_ok, Res.st_err, Res.st_stuck, ofO_some, ofO_none, asP_d, getV_z, getV_s, Option.bind_some, Option.map_some, Option.bind_none, Option.map_none, biP, on1, ints2, unD, mkL_f, mkL_t, plain_d, truthP, List.set_cons_zero, List.set_cons_succ, ofOS, unpackV, setAll, setAllD, bindT, ite_tru, ite_fls, if_true, if_false, reduceIte, Bool.false_eq_true, Bool.not_true, Bool.not_false, retv_ok, isi_int, isi_bool, isi_tup, bLen, seqV, seqP_t, seqP_l, lstP, intsV, eq_i, ne_i, le_i, lt_i, gt_i, ge_i, add_i, sub_i, itemsOf, enumOf, Int.cast_ofNat_Int, Int.natCast_one, List.length_map, Int.reduceEq, Int.reduceLT, Int.reduceLE, e1, e2, e3, e4, e5, ef, eg, ey, pst_len, r1]
  rw [show pst p5 ++ R ++ [OB.lst []] = pst p5 ++ (R ++ .lst (rowsP []) :: []) by simp [rowsP]]
  refine for_then (P := fun r => ∃ tb p', TabOk n tb ∧ outF false (R.length + 2) r = .ok (.d (tabP tb)) (pst p' ++ R))
    (fun xs l S1 => ∃ (a : Nat) (q : Pool) (tb : List (List Nat)) (J : Sto) (j4 j10 j11 : Option DV), xs = rangeP (a : Int) (n : Int) ∧ a ≤ n ∧ l = [some (.ref 1), some (.d (.int n)), some (.d (.int m)), some (.ref (R.length + 2)), j4, some (.d (.int far)), some (.d (.int near)), some (.d (.int one)), some (.d (.int other)), some (.d (.int days)), j10, j11] ∧
      S1 = pst q ++ (R ++ .lst (rowsP tb) :: J) ∧ NB J ∧ tb.length = a ∧ PTab n tb)
    ⟨0, p5, [], [], none, none, none, rfl, by omega, rfl, rfl, NB.nil, rfl, ⟨by simp, by simp, by simp⟩⟩ ?_ ?_
  · rintro x r l S1 ⟨a, q, tb, J, j4, j10, j11, ex, han, el, eS, hJ, ha, hP⟩
    by_cases an : a < n
    · rw [rangeP_cons an] at ex
      obtain ⟨rfl, rfl⟩ := List.cons.inj ex
      have hR2 : NB (R ++ .lst (rowsP tb) :: J) := hR.app (hJ.cons (by intro _ h; cases h))
      have ka := mul_l (a := (a : Int)) (Sm.of (by omega) (by omega))
      rw [el, eS]
      simp only [forF, startL, List.map_cons, List.map_nil, List.length_cons, List.length_nil, List.replicate, List.replicate_succ, List.replicate_zero, List.cons_append, List.nil_append, List.append_nil, Nat.reduceAdd, Nat.reduceSub, Nat.zero_add, ↓evalE_popAt, ↓evalI_range1, ↓evalI_range2, ↓evalE_mul, ↓evalE_mod, ↓evalE_fdiv, ↓evalE_pow, evalSs, evalS, evalE, evalEs, evalT, evalI, evalO, evalC, SRes.seq_next, SRes.seq_ret, SRes.seq_err, SRes.seq_brk, SRes.seq_cnt, SRes.seq_stuck, Res.bind_ok, Res.bind_err, Res.bind_stuck, Res.st_ok, Res.st_err, Res.st_stuck, ofO_some, ofO_none, asP_d, getV_z, getV_s, Option.bind_some, Option.map_some, Option.bind_none, Option.map_none, biP, on1, ints2, unD, mkL_f, mkL_t, plain_d, truthP, List.set_cons_zero, List.set_cons_succ, ofOS, unpackV, setAll, setAllD, bindT, ite_tru, ite_fls, if_true, if_false, reduceIte, Bool.false_eq_true, Bool.not_true, Bool.not_false, retv_ok, isi_int, isi_bool, isi_tup, bLen, seqV, seqP_t, seqP_l, lstP, intsV, eq_i, ne_i, le_i, lt_i, gt_i, ge_i, add_i, sub_i, itemsOf, enumOf, Int.cast_ofNat_Int, Int.natCast_one, List.length_map, Int.reduceEq, Int.reduceLT, Int.reduceLE, r1, rn, if_pos lim]
      obtain ⟨row, S2, er, ⟨q2, rfl⟩, hrl, hrm⟩ := comp_ints (w := ⟨nats (List.range n), none⟩) (J := fun S => ∃ q, S = pst q ++ (R ++ .lst (rowsP tb) :: J)) (m := m) (os := List.range n) (acc := []) (S := pst q ++ (R ++ .lst (rowsP tb) :: J))
        (f := compF (fun l2 S2 => evalC (callF T wn (d + 1)) none l2 S2) (fun l2 S2 => evalE (callF T wn (d + 1)) (.bin .add (.lit (.int 1)) (.ite (.cmp .lt (.var 1) (.lit (.int 8))) (.call "_law_draw" [(.var 0), (.var 2)]) (.bin .mod (.bi .int [(.bin .add (.bin .add (.bin .mul (.var 4) (.var 5)) (.bin .mul (.var 11) (.var 6))) (.bin .mul (.var 4) (.var 11)))]) (.var 2)))) l2 S2) (.name 11)
          (wipeL [some (.ref 1), some (.d (.int n)), some (.d (.int m)), some (.ref (R.length + 2)), some (.d (.int a)), some (.d (.int far)), some (.d (.int near)), some (.d (.int one)), some (.d (.int other)), some (.d (.int days)), j10, j11] [11])) rfl
        (by
          rintro o S ⟨q, rfl⟩
          by_cases c8 : n < 8
          · have c8' : (n : Int) < 8 := by omega
            obtain ⟨v, q2, hv, ev⟩ := D hR2 m q (by omega) (by omega)
            have e1 : (1 : Int) + (v : Int) = ((1 + v : Nat) : Int) := by omega
            refine ⟨1 + v, pst q2 ++ (R ++ .lst (rowsP tb) :: J), ?_, ⟨q2, rfl⟩, by omega, by omega⟩
            simp only [compF, wipeL, ↓evalE_popAt, ↓evalI_range1, ↓evalI_range2, ↓evalE_mul, ↓evalE_mod, ↓evalE_fdiv, ↓evalE_pow, evalSs, evalS, evalE, evalEs, evalT, evalI, evalO, evalC, SRes.seq_next, SRes.seq_ret, SRes.seq_err, SRes.seq_brk, SRes.seq_cnt, SRes.seq_stuck, Res.bind_ok, Res.bind_err, Res.bind_stuck, Res.st_ok, Res.st_err, Res.st_stuck, ofO_some, ofO_none, asP_d, getV_z, getV_s, Option.bind_some, Option.map_some, Option.bind_none, Option.map_none, biP, on1, ints2, unD, mkL_f, mkL_t, plain_d, truthP, List.set_cons_zero, List.set_cons_succ, ofOS, unpackV, setAll, setAllD, bindT, ite_tru, ite_fls, if_true, if_false, reduceIte, Bool.false_eq_true, Bool.not_true, Bool.not_false, retv_ok, isi_int, isi_bool, isi_tup, bLen, seqV, seqP_t, seqP_l, lstP, intsV, eq_i, ne_i, le_i, lt_i, gt_i, ge_i, add_i, sub_i, itemsOf, enumOf, Int.cast_ofNat_Int, Int.natCast_one, List.length_map, Int.reduceEq, Int.reduceLT, Int.reduceLE, c8', decide_true, ev, e1]
          · have c8' : ¬ (n : Int) < 8 := by omega
            obtain ⟨v, hv, ev⟩ := fmod_nat ((a : Int) * far + (o : Int) * near + (a : Int) * o) (n := m) (by omega)
            have e1 : (1 : Int) + (v : Int) = ((1 + v : Nat) : Int) := by omega
            refine ⟨1 + v, pst q ++ (R ++ .lst (rowsP tb) :: J), ?_, ⟨q, rfl⟩, by omega, by omega⟩
            simp only [compF, wipeL, ↓evalE_popAt, ↓evalI_range1, ↓evalI_range2, ↓evalE_mul, ↓evalE_mod, ↓evalE_fdiv, ↓evalE_pow, evalSs, evalS, evalE, evalEs, evalT, evalI, evalO, evalC, SRes.seq_next, SRes.seq_ret, SRes.seq_err, SRes.seq_brk, SRes.seq_cnt, SRes.seq_stuck, Res.bind_ok, Res.bind_err, Res.bind_stuck, Res.st_ok, Res.st_err, Res.st_stuck, ofO_some, ofO_none, asP_d, getV_z, getV_s, Option.bind_some, Option.map_some, Option.bind_none, Option.map_none, biP, on1, ints2, unD, mkL_f, mkL_t, plain_d, truthP, List.set_cons_zero, List.set_cons_succ, ofOS, unpackV, setAll, setAllD, bindT, ite_tru, ite_fls, if_true, if_false, reduceIte, Bool.false_eq_true, Bool.not_true, Bool.not_false, retv_ok, isi_int, isi_bool, isi_tup, bLen, seqV, seqP_t, seqP_l, lstP, intsV, eq_i, ne_i, le_i, lt_i, gt_i, ge_i, add_i, sub_i, itemsOf, enumOf, Int.cast_ofNat_Int, Int.natCast_one, List.length_map, Int.reduceEq, Int.reduceLT, Int.reduceLE, c8', decide_false, kf, kn, ka, bInt, mm, ev, e1]) ⟨q, rfl⟩
      simp only [↓evalE_popAt, ↓evalI_range1, ↓evalI_range2, ↓evalE_mul, ↓evalE_mod, ↓evalE_fdiv, ↓evalE_pow, evalSs, evalS, evalE, evalEs, evalT, evalI, evalO, evalC, SRes.seq_next, SRes.seq_ret, SRes.seq_err, SRes.seq_brk, SRes.seq_cnt, SRes.seq_stuck, Res.bind_ok, Res.bind_err, Res.bind_stuck, Res.st_ok, Res.st_err, Res.st_stuck, ofO_some, ofO_none, asP_d, getV_z, getV_s, Option.bind_some, Option.map_some, Option.bind_none, Option.map_none, biP, on1, ints2, unD, mkL_f, mkL_t, plain_d, truthP, List.set_cons_zero, List.set_cons_succ, ofOS, unpackV, setAll, setAllD, bindT, ite_tru, ite_fls, if_true, if_false, reduceIte, Bool.false_eq_true, Bool.not_true, Bool.not_false, retv_ok] at er
      rw [List.length_range] at hrl
      rw [er]
      have val : ∃ v : Nat, 1 ≤ v ∧ v ≤ m ∧ (if (a : Int) = (one : Int) then (days : Int) else (row.getD other 0 : Nat)) = (v : Int) := by
        by_cases c : a = one
        · exact ⟨days, hy1, hy2, if_pos (by omega)⟩
        · refine ⟨row.getD other 0, ?_, ?_, if_neg (by omega)⟩
          · rw [getD_lt (by omega)]; exact (hrm _ (List.getElem_mem _)).1
          · rw [getD_lt (by omega)]; exact (hrm _ (List.getElem_mem _)).2
      obtain ⟨v, hv1, hv2, ev⟩ := val
      have tg := top_get (pst q2 ++ (R ++ .lst (rowsP tb) :: J)) (.lst (nats row))
      have g1 := atI_nats (L := row) (i := other) (by omega)
      have pu1 := put_nats (v := v) tg (o := other) (by omega)
      rw [top_set] at pu1
      have tg2 := top_get (pst q2 ++ (R ++ .lst (rowsP tb) :: J)) (.lst (nats (row.set other v)))
      have pu2 := put_nats (v := 0) tg2 (o := a) (by rw [List.length_set]; omega)
      rw [top_set] at pu2
      simp only [Int.natCast_zero] at pu2
      have tg3 := top_get (pst q2 ++ (R ++ .lst (rowsP tb) :: J)) (.lst (nats ((row.set other v).set a 0)))
      have lens : (pst q2 ++ (R ++ .lst (rowsP tb) :: J) ++ [.lst (nats ((row.set other v).set a 0))]) = pst q2 ++ (R ++ .lst (rowsP tb) :: (J ++ [.lst (nats ((row.set other v).set a 0))])) := by simp
      have mg := mid_get q2 R (J ++ [.lst (nats ((row.set other v).set a 0))]) (.lst (rowsP tb))
      have rc : recv (.ref (R.length + 2)) (pst q2 ++ (R ++ .lst (rowsP tb) :: (J ++ [.lst (nats ((row.set other v).set a 0))]))) = true := by simp [recv, lstAt, mg]
      have la : lstAt (pst q2 ++ (R ++ .lst (rowsP tb) :: (J ++ [.lst (nats ((row.set other v).set a 0))]))) (R.length + 2) = some (rowsP tb) := by simp [lstAt, mg]
      have as : asP (pst q2 ++ (R ++ .lst (rowsP tb) :: (J ++ [.lst (nats ((row.set other v).set a 0))]))) (.ref (pst q2 ++ (R ++ .lst (rowsP tb) :: J)).length) = some (.list (nats ((row.set other v).set a 0))) := by
        rw [← lens]; simp only [asP, tg3]
      have fl : (rowsP tb).length < LIM := by unfold rowsP; rw [List.length_map, ha]; unfold LIM; omega
      have ap : mAppend (pst q2 ++ (R ++ .lst (rowsP tb) :: (J ++ [.lst (nats ((row.set other v).set a 0))]))) (R.length + 2) (rowsP tb) [.d (.tuple (nats ((row.set other v).set a 0)))] = .ok (.d .none) (pst q2 ++ (R ++ .lst (rowsP (tb ++ [(row.set other v).set a 0])) :: (J ++ [.lst (nats ((row.set other v).set a 0))]))) := by
        simp only [mAppend, if_pos fl, mid_set]
        simp [rowsP]
      have step : ∀ z : Int, (if (a : Int) = (one : Int) then (days : Int) else (row.getD other 0 : Nat)) = z → z = (v : Int) := fun z h => by rw [← h]; exact ev
      by_cases c : (a : Int) = (one : Int)
      · have e9 : (days : Int) = (v : Int) := step _ (if_pos c)
        simp only [noErr_ok, startL, List.map_cons, List.map_nil, List.length_cons, List.length_nil, List.replicate, List.replicate_succ, List.replicate_zero, List.cons_append, List.nil_append, List.append_nil, Nat.reduceAdd, Nat.reduceSub, Nat.zero_add, ↓evalE_popAt, ↓evalI_range1, ↓evalI_range2, ↓evalE_mul, ↓evalE_mod, ↓evalE_fdiv, ↓evalE_pow, evalSs, evalS, evalE, evalEs, evalT, evalI, evalO, evalC, SRes.seq_next, SRes.seq_ret, SRes.seq_err, SRes.seq_brk, SRes.seq_cnt, SRes.seq_stuck, Res.bind_ok, Res.bind_err, Res.bind_stuck, Res.st_ok, Res.st_err, Res.st_stuck, ofO_some, ofO_none, asP_d, getV_z, getV_s, Option.bind_some, Option.map_some, Option.bind_none, Option.map_none, biP, on1, ints2, unD, mkL_f, mkL_t, plain_d, truthP, List.set_cons_zero, List.set_cons_succ, ofOS, unpackV, setAll, setAllD, bindT, ite_tru, ite_fls, if_true, if_false, reduceIte, Bool.false_eq_true, Bool.not_true, Bool.not_false, retv_ok, isi_int, isi_bool, isi_tup, bLen, seqV, seqP_t, seqP_l, lstP, intsV, eq_i, ne_i, le_i, lt_i, gt_i, ge_i, add_i, sub_i, itemsOf, enumOf, Int.cast_ofNat_Int, Int.natCast_one, List.length_map, Int.reduceEq, Int.reduceLT, Int.reduceLE, List.nil_append, c, decide_true, e9, pu1]
        rw [← c]
        simp only [pu2, ↓evalE_popAt, ↓evalI_range1, ↓evalI_range2, ↓evalE_mul, ↓evalE_mod, ↓evalE_fdiv, ↓evalE_pow, evalSs, evalS, evalE, evalEs, evalT, evalI, evalO, evalC, SRes.seq_next, SRes.seq_ret, SRes.seq_err, SRes.seq_brk, SRes.seq_cnt, SRes.seq_stuck, Res.bind_ok, Res.bind_err, Res.bind_stuck, Res.st_ok, Res.st_err, Res.st_stuck, ofO_some, ofO_none, asP_d, getV_z, getV_s, Option.bind_some, Option.map_some, Option.bind_none, Option.map_none, biP, on1, ints2, unD, mkL_f, mkL_t, plain_d, truthP, List.set_cons_zero, List.set_cons_succ, ofOS, unpackV, setAll, setAllD, bindT, ite_tru, ite_fls, if_true, if_false, reduceIte, Bool.false_eq_true, Bool.not_true, Bool.not_false, retv_ok]
        rw [lens]
        simp only [rc, la, as, ↓evalE_popAt, ↓evalI_range1, ↓evalI_range2, ↓evalE_mul, ↓evalE_mod, ↓evalE_fdiv, ↓evalE_pow, evalSs, evalS, evalE, evalEs, evalT, evalI, evalO, evalC, SRes.seq_next, SRes.seq_ret, SRes.seq_err, SRes.seq_brk, SRes.seq_cnt, SRes.seq_stuck, Res.bind_ok, Res.bind_err, Res.bind_stuck, Res.st_ok, Res.st_err, Res.st_stuck, ofO_some, ofO_none, asP_d, getV_z, getV_s, Option.bind_some, Option.map_some, Option.bind_none, Option.map_none, biP, on1, ints2, unD, mkL_f, mkL_t, plain_d, truthP, List.set_cons_zero, List.set_cons_succ, ofOS, unpackV, setAll, setAllD, bindT, ite_tru, ite_fls, if_true, if_false, reduceIte, Bool.false_eq_true, Bool.not_true, Bool.not_false, retv_ok, isi_int, isi_bool, isi_tup, bLen, seqV, seqP_t, seqP_l, lstP, intsV, eq_i, ne_i, le_i, lt_i, gt_i, ge_i, add_i, sub_i, itemsOf, enumOf, Int.cast_ofNat_Int, Int.natCast_one, List.length_map, Int.reduceEq, Int.reduceLT, Int.reduceLE, methP, ap]
        refine ⟨_, _, rfl, rfl, a + 1, q2, tb ++ [(row.set other v).set a 0], _, _, _, _, rfl, by omega, rfl, rfl, hJ.add (by intro _ h; cases h), by simp [ha], ?_⟩
        refine hP.snoc (by simp; omega) ?_ fun b hb hba => ?_
        · rw [ha]; simp [List.getD, show a < row.length by omega]
        · rw [ha] at hba
          rw [getD_lt (by simp; omega), List.getElem_set_ne (by omega)]
          by_cases cb : b = other
          · subst cb; rw [List.getElem_set_self]; omega
          · rw [List.getElem_set_ne (by omega)]; have := hrm _ (List.getElem_mem (l := row) (n := b) (by omega)); omega
      · have e9 : ((row.getD other 0 : Nat) : Int) = (v : Int) := step _ (if_neg c)
        simp only [noErr_ok, startL, List.map_cons, List.map_nil, List.length_cons, List.length_nil, List.replicate, List.replicate_succ, List.replicate_zero, List.cons_append, List.nil_append, List.append_nil, Nat.reduceAdd, Nat.reduceSub, Nat.zero_add, ↓evalE_popAt, ↓evalI_range1, ↓evalI_range2, ↓evalE_mul, ↓evalE_mod, ↓evalE_fdiv, ↓evalE_pow, evalSs, evalS, evalE, evalEs, evalT, evalI, evalO, evalC, SRes.seq_next, SRes.seq_ret, SRes.seq_err, SRes.seq_brk, SRes.seq_cnt, SRes.seq_stuck, Res.bind_ok, Res.bind_err, Res.bind_stuck, Res.st_ok, Res.st_err, Res.st_stuck, ofO_some, ofO_none, asP_d, getV_z, getV_s, Option.bind_some, Option.map_some, Option.bind_none, Option.map_none, biP, on1, ints2, unD, mkL_f, mkL_t, plain_d, truthP, List.set_cons_zero, List.set_cons_succ, ofOS, unpackV, setAll, setAllD, bindT, ite_tru, ite_fls, if_true, if_false, reduceIte, Bool.false_eq_true, Bool.not_true, Bool.not_false, retv_ok, isi_int, isi_bool, isi_tup, bLen, seqV, seqP_t, seqP_l, lstP, intsV, eq_i, ne_i, le_i, lt_i, gt_i, ge_i, add_i, sub_i, itemsOf, enumOf, Int.cast_ofNat_Int, Int.natCast_one, List.length_map, Int.reduceEq, Int.reduceLT, Int.reduceLE, List.nil_append, c, decide_false, tg, g1, e9, pu1, pu2]
        rw [lens]
        simp only [rc, la, as, ↓evalE_popAt, ↓evalI_range1, ↓evalI_range2, ↓evalE_mul, ↓evalE_mod, ↓evalE_fdiv, ↓evalE_pow, evalSs, evalS, evalE, evalEs, evalT, evalI, evalO, evalC, SRes.seq_next, SRes.seq_ret, SRes.seq_err, SRes.seq_brk, SRes.seq_cnt, SRes.seq_stuck, Res.bind_ok, Res.bind_err, Res.bind_stuck, Res.st_ok, Res.st_err, Res.st_stuck, ofO_some, ofO_none, asP_d, getV_z, getV_s, Option.bind_some, Option.map_some, Option.bind_none, Option.map_none, biP, on1, ints2, unD, mkL_f, mkL_t, plain_d, truthP, List.set_cons_zero, List.set_cons_succ, ofOS, unpackV, setAll, setAllD, bindT, ite_tru, ite_fls, if_true, if_false, reduceIte, Bool.false_eq_true, Bool.not_true, Bool.not_false, retv_ok, isi_int, isi_bool, isi_tup, bLen, seqV, seqP_t, seqP_l, lstP, intsV, eq_i, ne_i, le_i, lt_i, gt_i, ge_i, add_i, sub_i, itemsOf, enumOf, Int.cast_ofNat_Int, Int.natCast_one, List.length_map, Int.reduceEq, Int.reduceLT, Int.reduceLE, methP, ap]
        refine ⟨_, _, rfl, rfl, a + 1, q2, tb ++ [(row.set other v).set a 0], _, _, _, _, rfl, by omega, rfl, rfl, hJ.add (by intro _ h; cases h), by simp [ha], ?_⟩
        refine hP.snoc (by simp; omega) ?_ fun b hb hba => ?_
        · rw [ha]; simp [List.getD, show a < row.length by omega]
        · rw [ha] at hba
          rw [getD_lt (by simp; omega), List.getElem_set_ne (by omega)]
          by_cases cb : b = other
          · subst cb; rw [List.getElem_set_self]; omega
          · rw [List.getElem_set_ne (by omega)]; have := hrm _ (List.getElem_mem (l := row) (n := b) (by omega)); omega
    · rw [rangeP_nil (by omega)] at ex; cases ex
  · rintro l S1 ⟨a, q, tb, J, j4, j10, j11, ex, han, el, eS, hJ, ha, hP⟩
    have an : a = n := by
      by_cases c : a < n
      · rw [rangeP_cons c] at ex; cases ex
      · omega
    subst an
    rw [el, eS]
    refine ⟨tb, q, ⟨ha, hP.row, hP.zero, hP.ok⟩, ?_⟩
    have as : asP (pst q ++ (R ++ .lst (rowsP tb) :: J)) (.ref (R.length + 2)) = some (.list (rowsP tb)) := by simp only [asP, mid_get]
    simp only [startL, List.map_cons, List.map_nil, List.length_cons, List.length_nil, List.replicate, List.replicate_succ, List.replicate_zero, List.cons_append, List.nil_append, List.append_nil, Nat.reduceAdd, Nat.reduceSub, Nat.zero_add, ↓evalE_popAt, ↓evalI_range1, ↓evalI_range2, ↓evalE_mul, ↓evalE_mod, ↓evalE_fdiv, ↓evalE_pow, evalSs, evalS, evalE, evalEs, evalT, evalI, evalO, evalC, SRes.seq_next, SRes.seq_ret, SRes.seq_err, SRes.seq_brk, SRes.seq_cnt, SRes.seq_stuck, Res.bind_ok, Res.bind_err, Res.bind_stuck, Res.st_ok, Res.st_err, Res.st_stuck, ofO_some, ofO_none, asP_d, getV_z, getV_s, Option.bind_some, Option.map_some, Option.bind_none, Option.map_none, biP, on1, ints2, unD, mkL_f, mkL_t, plain_d, truthP, List.set_cons_zero, List.set_cons_succ, ofOS, unpackV, setAll, setAllD, bindT, ite_tru, ite_fls, if_true, if_false, reduceIte, Bool.false_eq_true, Bool.not_true, Bool.not_false, retv_ok, isi_int, isi_bool, isi_tup, bLen, seqV, seqP_t, seqP_l, lstP, intsV, eq_i, ne_i, le_i, lt_i, gt_i, ge_i, add_i, sub_i, itemsOf, enumOf, Int.cast_ofNat_Int, Int.natCast_one, List.length_map, Int.reduceEq, Int.reduceLT, Int.reduceLE, as]
    have := retv_own (S := pst q ++ R) (R := .lst (rowsP tb) :: J) (cl_pst hR q) (tabP tb)
    rw [pst_len, List.append_assoc] at this
    exact this
theorem trips_i (hT : T "_law_term_table" = some C45.t__law_term_table) (hT2 : T "_law_term_trips" = some C45.t__law_term_trips) (d : Nat) {R : Sto} (hR : NB R) (p : Pool) {n : Nat} (ls : List Wy) (h1 : 1 ≤ n) (h40 : n ≤ 40) :
    ∃ k tb p', TabOk n tb ∧ 1 ≤ k ∧ k ≤ 20 ∧ callF T wn (d + 3) "_law_term_trips" [.ref 1, .d (web n ls)] (pst p ++ R) = .ok (.d (trips k tb)) (pst p' ++ R) := by
  have D : ∀ (m : Nat) (p : Pool), 0 < m → m < 1000 → ∃ v p', v < m ∧ callF T wn (d + 2) "_law_draw" [.ref 1, .d (.int m)] (pst p ++ R) = .ok (.d (.int (v : Nat))) (pst p' ++ R) := fun m p h h2 => draw_i t (d + 1) hR p h (by omega)
  have Pk : ∀ (ps : List PyData) (p : Pool), 0 < ps.length → ps.length < 1000 → ∃ x p', x ∈ ps ∧ callF T wn (d + 2) "_law_pick" [.ref 1, .d (.list ps)] (pst p ++ R) = .ok (.d x) (pst p' ++ R) := fun ps p h h2 => pick_i t d hR p h (by omega)
  have i0 : ixP (web n ls) (.int 0) = some (.int n) := rfl
  obtain ⟨u, p1, hu, e1⟩ := D 6 p (by decide) (by decide)
  simp only [Int.cast_ofNat_Int] at e1
  rw [callF_eq hT2 rfl, C45.t__law_term_trips, pst_len]
  simp only [startL, List.map_cons, List.map_nil, List.length_cons, List.length_nil, List.replicate, List.replicate_succ, List.replicate_zero, List.cons_append, List.nil_append, List.append_nil, Nat.reduceAdd, Nat.reduceSub, Nat.zero_add, ↓evalE_popAt, ↓evalI_range1, ↓evalI_range2, ↓evalE_mul, ↓evalE_mod, ↓evalE_fdiv, ↓evalE_pow, evalSs, evalS, evalE, evalEs, evalT, evalI, evalO, evalC, SRes.seq_next, SRes.seq_ret, SRes.seq_err, SRes.seq_brk, SRes.seq_cnt, SRes.seq_stuck, Res.bind_ok, Res.bind_err, Res.bind_stuck, Res.st_ok, Res.st_err, Res.st_stuck, ofO_some, ofO_none, asP_d, getV_z, getV_s, Option.bind_some, Option.map_some, Option.bind_none, Option.map_none, biP, on1, ints2, unD, mkL_f, mkL_t, plain_d, truthP, List.set_cons_zero, List.set_cons_succ, ofOS, unpackV, setAll, setAllD, bindT, ite_tru, ite_fls, if_true, if_false, reduceIte, Bool.false_eq_true, Bool.not_true, Bool.not_false, retv_ok, isi_int, isi_bool, isi_tup, bLen, seqV, seqP_t, seqP_l, lstP, intsV, eq_i, ne_i, le_i, lt_i, gt_i, ge_i, add_i, sub_i, itemsOf, enumOf, Int.cast_ofNat_Int, Int.natCast_one, List.length_map, Int.reduceEq, Int.reduceLT, Int.reduceLE, e1]
  by_cases u0 : (u : Int) = 0
  · obtain ⟨g, p2, hg, e2⟩ := D 20 p1 (by decide) (by decide)
    simp only [Int.cast_ofNat_Int] at e2
    obtain ⟨x, p3, hx, e3⟩ := Pk [.int 20, .int (1 + (g : Int))] p2 (by simp) (by simp)
    have hx2 : ∃ c : Nat, 1 ≤ c ∧ c ≤ 20 ∧ x = .int c := by
      simp only [List.mem_cons, List.not_mem_nil, or_false] at hx
      rcases hx with e | e
      · exact ⟨20, by omega, by omega, e⟩
      · exact ⟨1 + g, by omega, by omega, by rw [e]; congr 1⟩
    obtain ⟨k, hk1, hk2, rfl⟩ := hx2
    have := table_i (wn := wn) t hT d hR p3 (n := n) (m := 200) h1 h40 (by omega) (by omega)
    simp only [Int.cast_ofNat_Int] at this
    obtain ⟨tb, p4, htb, e4⟩ := this
    refine ⟨k, tb, p4, htb, hk1, hk2, ?_⟩
    simp only [u0, decide_true, ↓evalE_popAt, ↓evalI_range1, ↓evalI_range2, ↓evalE_mul, ↓evalE_mod, ↓evalE_fdiv, ↓evalE_pow, evalSs, evalS, evalE, evalEs, evalT, evalI, evalO, evalC, SRes.seq_next, SRes.seq_ret, SRes.seq_err, SRes.seq_brk, SRes.seq_cnt, SRes.seq_stuck, Res.bind_ok, Res.bind_err, Res.bind_stuck, Res.st_ok, Res.st_err, Res.st_stuck, ofO_some, ofO_none, asP_d, getV_z, getV_s, Option.bind_some, Option.map_some, Option.bind_none, Option.map_none, biP, on1, ints2, unD, mkL_f, mkL_t, plain_d, truthP, List.set_cons_zero, List.set_cons_succ, ofOS, unpackV, setAll, setAllD, bindT, ite_tru, ite_fls, if_true, if_false, reduceIte, Bool.false_eq_true, Bool.not_true, Bool.not_false, retv_ok, isi_int, isi_bool, isi_tup, bLen, seqV, seqP_t, seqP_l, lstP, intsV, eq_i, ne_i, le_i, lt_i, gt_i, ge_i, add_i, sub_i, itemsOf, enumOf, Int.cast_ofNat_Int, Int.natCast_one, List.length_map, Int.reduceEq, Int.reduceLT, Int.reduceLE, e2, e3, i0, e4]
    exact ret_p (cl_pst hR p4) (pst_len p4 R).symm _
  · obtain ⟨g, p2, hg, e2⟩ := D 3 p1 (by decide) (by decide)
    simp only [Int.cast_ofNat_Int] at e2
    have eg : (1 : Int) + (g : Int) = ((1 + g : Nat) : Int) := by omega
    obtain ⟨x, p3, hx, e3⟩ := Pk [.int 1, .int 3, .int 8] p2 (by simp) (by simp)
    have hx2 : ∃ c : Nat, 1 ≤ c ∧ c ≤ 8 ∧ x = .int c := by
      simp only [List.mem_cons, List.not_mem_nil, or_false] at hx
      rcases hx with e | e | e
      · exact ⟨1, by omega, by omega, e⟩
      · exact ⟨3, by omega, by omega, e⟩
      · exact ⟨8, by omega, by omega, e⟩
    obtain ⟨c, hc1, hc2, rfl⟩ := hx2
    obtain ⟨tb, p4, htb, e4⟩ := table_i (wn := wn) t hT d hR p3 (n := n) (m := c) h1 h40 hc1 (by omega)
    refine ⟨1 + g, tb, p4, htb, by omega, by omega, ?_⟩
    simp only [u0, decide_false, ↓evalE_popAt, ↓evalI_range1, ↓evalI_range2, ↓evalE_mul, ↓evalE_mod, ↓evalE_fdiv, ↓evalE_pow, evalSs, evalS, evalE, evalEs, evalT, evalI, evalO, evalC, SRes.seq_next, SRes.seq_ret, SRes.seq_err, SRes.seq_brk, SRes.seq_cnt, SRes.seq_stuck, Res.bind_ok, Res.bind_err, Res.bind_stuck, Res.st_ok, Res.st_err, Res.st_stuck, ofO_some, ofO_none, asP_d, getV_z, getV_s, Option.bind_some, Option.map_some, Option.bind_none, Option.map_none, biP, on1, ints2, unD, mkL_f, mkL_t, plain_d, truthP, List.set_cons_zero, List.set_cons_succ, ofOS, unpackV, setAll, setAllD, bindT, ite_tru, ite_fls, if_true, if_false, reduceIte, Bool.false_eq_true, Bool.not_true, Bool.not_false, retv_ok, isi_int, isi_bool, isi_tup, bLen, seqV, seqP_t, seqP_l, lstP, intsV, eq_i, ne_i, le_i, lt_i, gt_i, ge_i, add_i, sub_i, itemsOf, enumOf, Int.cast_ofNat_Int, Int.natCast_one, List.length_map, Int.reduceEq, Int.reduceLT, Int.reduceLE, e2, eg, i0, e3, e4]
    exact ret_p (cl_pst hR p4) (pst_len p4 R).symm _
end EvP
end
section
set_option maxRecDepth 100000
set_option maxHeartbeats 2000000
/-! EvP18: notice day by day (k45). -/
namespace EvP
open Ev PySem L2 MW
theorem strOk_app {a b : Str} (ha : PyData.strOk a = true) (hb : PyData.strOk b = true) : PyData.strOk (a ++ b) = true := by
  show ((a.cps ++ b.cps).all (· < 0x110000)) = true
  rw [Array.all_append]
  unfold PyData.strOk at ha hb
  rw [ha, hb]; rfl
def text3 (a b c : Int) : Str := PyData.shown (.tuple [.int a, .int b, .int c])
theorem text3_eq (a b c : Int) : text3 a b c = ("(" : Str) ++ (Str.ofString (toString a) ++ ", " ++ (Str.ofString (toString b) ++ ", " ++ Str.ofString (toString c))) ++ ")" := by
  unfold text3
  simp only [PyData.shown, PyData.shownAll, tupleText, Str.join, List.length_cons, List.length_nil]
  rfl
theorem text3_ok (a b c : Int) : PyData.strOk (text3 a b c) = true := by
  rw [text3_eq]
  exact strOk_app (strOk_app (strOk_of _) (strOk_app (strOk_app (strOk_of _) (strOk_of _)) (strOk_app (strOk_app (strOk_of _) (strOk_of _)) (strOk_of _)))) (strOk_of _)
theorem small_log {i : Int} (h : -1000000000 ≤ i) (h2 : i ≤ 1000000000) : i.natAbs.log2 < 1920 := by
  by_cases z : i.natAbs = 0
  · rw [z]; decide
  · refine (Nat.log2_lt z).mpr (Nat.lt_of_lt_of_le (m := 2 ^ 40) (by omega) (Nat.pow_le_pow_right (by decide) (by decide)))
theorem small_text {i : Int} (h : -1000000000 ≤ i) (h2 : i ≤ 1000000000) : (Str.ofString (toString i)).length ≤ 1921 := by
  rw [PySem.ofString_length]; exact PySem.int_text_length_le (k := 1920) (by decide) (small_log h h2)
def Sml (i : Int) : Prop := -1000000000 ≤ i ∧ i ≤ 1000000000
theorem repr3_i {a b c : Int} (ha : Sml a) (hb : Sml b) (hc : Sml c) (S : Sto) : bRepr S (.d (.tuple [.int a, .int b, .int c])) = .ok (.d (.str (text3 a b c))) S := by
  have l1 := small_text ha.1 ha.2
  have l2 := small_text hb.1 hb.2
  have l3 := small_text hc.1 hc.2
  have g1 := small_log ha.1 ha.2
  have g2 := small_log hb.1 hb.2
  have g3 := small_log hc.1 hc.2
  have len : (text3 a b c).length ≤ sizeLine := by
    rw [text3_eq]
    simp only [strLen_append]
    have e1 : (Str.ofString "(").length = 1 := by decide +kernel
    have e2 : (Str.ofString ", ").length = 2 := by decide +kernel
    have e3 : (Str.ofString ")").length = 1 := by decide +kernel
    have e4 : sizeLine = 16777216 := by decide
    omega
  have c : PyData.showable (.tuple [.int a, .int b, .int c]) = true ∧ PyData.hasDict (.tuple [.int a, .int b, .int c]) = false ∧ PyData.depth (.tuple [.int a, .int b, .int c]) ≤ 64 ∧ (PyData.shown (.tuple [.int a, .int b, .int c])).length ≤ sizeLine :=
    ⟨by simp [PyData.showable, PyData.showableAll, g1, g2, g3], by simp [PyData.hasDict, PyData.hasDictAll], by simp [PyData.depth, PyData.depthAll], len⟩
  unfold bRepr
  simp only [asP_d]
  rw [if_pos c]; rfl
theorem net_i (x : Str) (h : PyData.strOk x = true) : cmpP .ne (.str x) (.str x) = some false := by
  show (if SeqAt.shaped (.str x) = true ∧ SeqAt.shaped (.str x) = true then some (!PyData.eqv (.str x) (.str x)) else none) = _
  have sh : SeqAt.shaped (.str x) = true := by
    unfold SeqAt.shaped
    rw [PyData.canLay0, h, PyData.depth]
    rfl
  rw [if_pos ⟨sh, sh⟩, PyData.eqv]
  simp
theorem insS_memP {k j : Int} : ∀ {l : List Int}, j ∈ insS k l ↔ j = k ∨ j ∈ l
  | [] => by simp [insS]
  | x :: r => by
    unfold insS
    split
    · simp
    · split
      · rename_i e; subst e; simp
      · rw [List.mem_cons, insS_memP (l := r), List.mem_cons]
        constructor
        · rintro (a | a | a)
          · exact .inr (.inl a)
          · exact .inl a
          · exact .inr (.inr a)
        · rintro (a | a | a)
          · exact .inr (.inl a)
          · exact .inl a
          · exact .inr (.inr a)
theorem insS_ordP {k : Int} : ∀ {l : List Int}, l.Pairwise (· < ·) → (insS k l).Pairwise (· < ·)
  | [], _ => by simp [insS]
  | x :: r, h => by
    rw [List.pairwise_cons] at h
    unfold insS
    split
    · rename_i c
      refine List.pairwise_cons.mpr ⟨fun y hy => ?_, List.pairwise_cons.mpr h⟩
      rcases List.mem_cons.mp hy with e | m
      · exact e ▸ c
      · have := h.1 y m; omega
    · split
      · exact List.pairwise_cons.mpr h
      · refine List.pairwise_cons.mpr ⟨fun y hy => ?_, insS_ordP h.2⟩
        rcases insS_memP.mp hy with e | m
        · omega
        · exact h.1 y m
theorem insS_lenP {k : Int} : ∀ {l : List Int}, (insS k l).length ≤ l.length + 1
  | [] => by simp [insS]
  | x :: r => by
    unfold insS
    split
    · simp
    · split
      · simp
      · have := insS_lenP (k := k) (l := r); simp only [List.length_cons]; omega
theorem setSort_memP {j : Int} : ∀ {l : List Int}, j ∈ setSort l ↔ j ∈ l
  | [] => by simp [setSort]
  | x :: r => by rw [setSort, insS_memP, setSort_memP (l := r), List.mem_cons]
theorem setSort_ordP : ∀ {l : List Int}, (setSort l).Pairwise (· < ·)
  | [] => by simp [setSort]
  | x :: r => by rw [setSort]; exact insS_ordP setSort_ordP
theorem setSort_lenP : ∀ l : List Int, (setSort l).length ≤ l.length
  | [] => by simp [setSort]
  | x :: r => by rw [setSort]; have := setSort_lenP r; have := insS_lenP (k := x) (l := setSort r); simp only [List.length_cons]; omega
def rgLD0 (m : Bool) (v : DV) (S : Sto) : Res DV := bRange m S v
theorem rgLD_is : ∃ f : Bool → DV → Sto → Res DV, f = rgLD0 := ⟨_, rfl⟩
noncomputable def rgLD : Bool → DV → Sto → Res DV := Classical.choose rgLD_is
theorem rgLD_eq : rgLD = rgLD0 := Classical.choose_spec rgLD_is
theorem evalE_rangeL {C : Calls} {m : Bool} {a : ME} {l : Loc} {S : Sto} : evalE C (.bi (.rangeList m) [a]) l S = (evalE C a l S).bind fun v S1 => rgLD m v S1 := by
  rw [rgLD_eq]
  simp only [evalE, evalEs]
  cases evalE C a l S <;> rfl
theorem rgL_i {n : Nat} (h : n ≤ 1000) (S : Sto) : rgLD false (.d (.int (n : Nat))) S = .ok (.d (.list (nats (List.range n)))) S := by
  rw [rgLD_eq]
  have hr : (n : Int) ≤ (LIM : Int) ∧ -(2 ^ 62) ≤ (n : Int) := by unfold LIM; omega
  simp only [rgLD0, bRange, asP_d]
  rw [if_pos hr, rangeP_nat]; rfl
structure T45 (T : String → Option Fn) : Prop where
  t : TT T
  r : TR T
  o : TO T
  check_loans : T "check_loans_worths" = some C.t_check_loans_worths
  length : T "_law_web_length" = some C.t__law_web_length
  pool : T "_law_pool" = some C.t__law_pool
  loans : T "_law_term_loans" = some C.t__law_term_loans
  notice : T "notice_gain" = some C45.t_notice_gain
  loan : T "loan_gain" = some C45.t_loan_gain
  table : T "_law_term_table" = some C45.t__law_term_table
  trips : T "_law_term_trips" = some C45.t__law_term_trips
  some_ : T "_law_notice_some" = some C45.t__law_notice_some
  law : T "law" = some C45.t_law
variable {T : String → Option Fn} {wn : Nat} {S : Sto} (t : T45 T)
include t
theorem notice_i (hS : Cl S) (d : Nat) {n : Nat} {ls : List Wy} (hw : WebOk n ls) (hl : ls.length < LIM) {k L j : Nat} (h : LoansOk k L j) :
    callF T wn (d + 8) "notice_gain" [.d (web n ls), .d (loans k L j)] S = .ok (.d (.int (if j = L then 0 else need k L j (days (least ls)) (mx (least ls)) - need k L (j + 1) (days (least ls)) (mx (least ls))))) S := by
  have MT := made_terms_i (wn := wn) t.t.n hS (d + 2) hw hl h
  have AL := fun d => are_loans_i (wn := wn) t.t.n hS d k L j
  have N1 := needed_i (wn := wn) t.t.n hS d hw hl h
  have e3 : ixP (loans k L j) (.int 3) = some (.int j) := rfl
  have e2 : ixP (loans k L j) (.int 2) = some (.int L) := rfl
  have c1 : cutP [.str "loans", .int k, .int L, .int j] none (some 3) = [.str "loans", .int k, .int L] := rfl
  have ha : binP .add (.tuple [.str "loans", .int k, .int L]) (.tuple [.int ((j : Int) + 1)]) = some (loans k L (j + 1)) := rfl
  rw [callF_eq t.notice rfl, C45.t_notice_gain]
  simp only [startL, List.map_cons, List.map_nil, List.length_cons, List.length_nil, List.replicate, List.replicate_succ, List.replicate_zero, List.cons_append, List.nil_append, List.append_nil, Nat.reduceAdd, Nat.reduceSub, Nat.zero_add, ↓evalE_popAt, ↓evalI_range1, ↓evalI_range2, ↓evalE_mul, ↓evalE_mod, ↓evalE_fdiv, ↓evalE_pow, evalSs, evalS, evalE, evalEs, evalT, evalI, evalO, evalC, SRes.seq_next, SRes.seq_ret, SRes.seq_err, SRes.seq_brk, SRes.seq_cnt, SRes.seq_stuck, Res.bind_ok, Res.bind_err, Res.bind_stuck, Res.st_ok, Res.st_err, Res.st_stuck, ofO_some, ofO_none, asP_d, getV_z, getV_s, Option.bind_some, Option.map_some, Option.bind_none, Option.map_none, biP, on1, ints2, unD, mkL_f, mkL_t, plain_d, truthP, List.set_cons_zero, List.set_cons_succ, ofOS, unpackV, setAll, setAllD, bindT, ite_tru, ite_fls, if_true, if_false, reduceIte, Bool.false_eq_true, Bool.not_true, Bool.not_false, retv_ok, isi_int, isi_bool, isi_tup, bLen, seqV, seqP_t, seqP_l, lstP, intsV, eq_i, ne_i, le_i, lt_i, gt_i, ge_i, add_i, sub_i, itemsOf, enumOf, Int.cast_ofNat_Int, Int.natCast_one, List.length_map, Int.reduceEq, Int.reduceLT, Int.reduceLE, MT, AL, e3, e2]
  by_cases c : j = L
  · have c' : (j : Int) = (L : Int) := by omega
    simp only [c', decide_true, ↓evalE_popAt, ↓evalI_range1, ↓evalI_range2, ↓evalE_mul, ↓evalE_mod, ↓evalE_fdiv, ↓evalE_pow, evalSs, evalS, evalE, evalEs, evalT, evalI, evalO, evalC, SRes.seq_next, SRes.seq_ret, SRes.seq_err, SRes.seq_brk, SRes.seq_cnt, SRes.seq_stuck, Res.bind_ok, Res.bind_err, Res.bind_stuck, Res.st_ok, Res.st_err, Res.st_stuck, ofO_some, ofO_none, asP_d, getV_z, getV_s, Option.bind_some, Option.map_some, Option.bind_none, Option.map_none, biP, on1, ints2, unD, mkL_f, mkL_t, plain_d, truthP, List.set_cons_zero, List.set_cons_succ, ofOS, unpackV, setAll, setAllD, bindT, ite_tru, ite_fls, if_true, if_false, reduceIte, Bool.false_eq_true, Bool.not_true, Bool.not_false, retv_ok, if_pos c, retv_ok hS]
  · have c' : ¬ (j : Int) = (L : Int) := by omega
    have N2 := needed_i (wn := wn) t.t.n hS d hw hl (k := k) (L := L) (j := j + 1) ⟨h.k1, h.k20, h.l1, h.l200, by have := h.jl; omega⟩
    simp only [c', decide_false, ↓evalE_popAt, ↓evalI_range1, ↓evalI_range2, ↓evalE_mul, ↓evalE_mod, ↓evalE_fdiv, ↓evalE_pow, evalSs, evalS, evalE, evalEs, evalT, evalI, evalO, evalC, SRes.seq_next, SRes.seq_ret, SRes.seq_err, SRes.seq_brk, SRes.seq_cnt, SRes.seq_stuck, Res.bind_ok, Res.bind_err, Res.bind_stuck, Res.st_ok, Res.st_err, Res.st_stuck, ofO_some, ofO_none, asP_d, getV_z, getV_s, Option.bind_some, Option.map_some, Option.bind_none, Option.map_none, biP, on1, ints2, unD, mkL_f, mkL_t, plain_d, truthP, List.set_cons_zero, List.set_cons_succ, ofOS, unpackV, setAll, setAllD, bindT, ite_tru, ite_fls, if_true, if_false, reduceIte, Bool.false_eq_true, Bool.not_true, Bool.not_false, retv_ok, N1]
    unfold loans at N2 e3 ha ⊢
    simp only [↓evalE_popAt, ↓evalI_range1, ↓evalI_range2, ↓evalE_mul, ↓evalE_mod, ↓evalE_fdiv, ↓evalE_pow, evalSs, evalS, evalE, evalEs, evalT, evalI, evalO, evalC, SRes.seq_next, SRes.seq_ret, SRes.seq_err, SRes.seq_brk, SRes.seq_cnt, SRes.seq_stuck, Res.bind_ok, Res.bind_err, Res.bind_stuck, Res.st_ok, Res.st_err, Res.st_stuck, ofO_some, ofO_none, asP_d, getV_z, getV_s, Option.bind_some, Option.map_some, Option.bind_none, Option.map_none, biP, on1, ints2, unD, mkL_f, mkL_t, plain_d, truthP, List.set_cons_zero, List.set_cons_succ, ofOS, unpackV, setAll, setAllD, bindT, ite_tru, ite_fls, if_true, if_false, reduceIte, Bool.false_eq_true, Bool.not_true, Bool.not_false, retv_ok, isi_int, isi_bool, isi_tup, bLen, seqV, seqP_t, seqP_l, lstP, intsV, eq_i, ne_i, le_i, lt_i, gt_i, ge_i, add_i, sub_i, itemsOf, enumOf, Int.cast_ofNat_Int, Int.natCast_one, List.length_map, Int.reduceEq, Int.reduceLT, Int.reduceLE, c1, e3, ha, N2, if_neg c, retv_ok hS]
theorem loan_i (hS : Cl S) (d : Nat) {n : Nat} {ls : List Wy} (hw : WebOk n ls) (hl : ls.length < LIM) {k L j : Nat} (h : LoansOk k L j) :
    callF T wn (d + 7) "loan_gain" [.d (web n ls), .d (loans k L j)] S = .ok (.d (.int (need k (L + 1) j (days (least ls)) (mx (least ls)) - need k L j (days (least ls)) (mx (least ls))))) S := by
  have MT := made_terms_i (wn := wn) t.t.n hS (d + 1) hw hl h
  have ec : ∀ d, callF T wn (d + 2) "check_loans_worths" [.d (loans k L j)] S = .ok (.d .none) S := fun d => by
    rw [callF_eq t.check_loans rfl, C.t_check_loans_worths]
    simp only [startL, List.map_cons, List.map_nil, List.length_cons, List.length_nil, List.replicate, List.replicate_succ, List.replicate_zero, List.cons_append, List.nil_append, List.append_nil, Nat.reduceAdd, Nat.reduceSub, Nat.zero_add, ↓evalE_popAt, ↓evalI_range1, ↓evalI_range2, ↓evalE_mul, ↓evalE_mod, ↓evalE_fdiv, ↓evalE_pow, evalSs, evalS, evalE, evalEs, evalT, evalI, evalO, evalC, SRes.seq_next, SRes.seq_ret, SRes.seq_err, SRes.seq_brk, SRes.seq_cnt, SRes.seq_stuck, Res.bind_ok, Res.bind_err, Res.bind_stuck, Res.st_ok, Res.st_err, Res.st_stuck, ofO_some, ofO_none, asP_d, getV_z, getV_s, Option.bind_some, Option.map_some, Option.bind_none, Option.map_none, biP, on1, ints2, unD, mkL_f, mkL_t, plain_d, truthP, List.set_cons_zero, List.set_cons_succ, ofOS, unpackV, setAll, setAllD, bindT, ite_tru, ite_fls, if_true, if_false, reduceIte, Bool.false_eq_true, Bool.not_true, Bool.not_false, retv_ok, are_loans_i t.t.n hS, next_ok hS]
  have SM := summands_i (wn := wn) t.t.n hS d hw hl h
  have C1 := crates_by_i (wn := wn) t.t.n hS (d + 4) k L j (days (least ls)) (mx (least ls)) h.k20
  have C2 := crates_by_i (wn := wn) t.t.n hS (d + 4) k (L + 1) j (days (least ls)) (mx (least ls)) h.k20
  have eL : (L : Int) + 1 = ((L + 1 : Nat) : Int) := by omega
  rw [callF_eq t.loan rfl, C45.t_loan_gain]
  simp only [startL, List.map_cons, List.map_nil, List.length_cons, List.length_nil, List.replicate, List.replicate_succ, List.replicate_zero, List.cons_append, List.nil_append, List.append_nil, Nat.reduceAdd, Nat.reduceSub, Nat.zero_add, ↓evalE_popAt, ↓evalI_range1, ↓evalI_range2, ↓evalE_mul, ↓evalE_mod, ↓evalE_fdiv, ↓evalE_pow, evalSs, evalS, evalE, evalEs, evalT, evalI, evalO, evalC, SRes.seq_next, SRes.seq_ret, SRes.seq_err, SRes.seq_brk, SRes.seq_cnt, SRes.seq_stuck, Res.bind_ok, Res.bind_err, Res.bind_stuck, Res.st_ok, Res.st_err, Res.st_stuck, ofO_some, ofO_none, asP_d, getV_z, getV_s, Option.bind_some, Option.map_some, Option.bind_none, Option.map_none, biP, on1, ints2, unD, mkL_f, mkL_t, plain_d, truthP, List.set_cons_zero, List.set_cons_succ, ofOS, unpackV, setAll, setAllD, bindT, ite_tru, ite_fls, if_true, if_false, reduceIte, Bool.false_eq_true, Bool.not_true, Bool.not_false, retv_ok, MT, ec, SM]
  unfold five at C1 C2 ⊢
  simp only [↓evalE_popAt, ↓evalI_range1, ↓evalI_range2, ↓evalE_mul, ↓evalE_mod, ↓evalE_fdiv, ↓evalE_pow, evalSs, evalS, evalE, evalEs, evalT, evalI, evalO, evalC, SRes.seq_next, SRes.seq_ret, SRes.seq_err, SRes.seq_brk, SRes.seq_cnt, SRes.seq_stuck, Res.bind_ok, Res.bind_err, Res.bind_stuck, Res.st_ok, Res.st_err, Res.st_stuck, ofO_some, ofO_none, asP_d, getV_z, getV_s, Option.bind_some, Option.map_some, Option.bind_none, Option.map_none, biP, on1, ints2, unD, mkL_f, mkL_t, plain_d, truthP, List.set_cons_zero, List.set_cons_succ, ofOS, unpackV, setAll, setAllD, bindT, ite_tru, ite_fls, if_true, if_false, reduceIte, Bool.false_eq_true, Bool.not_true, Bool.not_false, retv_ok, isi_int, isi_bool, isi_tup, bLen, seqV, seqP_t, seqP_l, lstP, intsV, eq_i, ne_i, le_i, lt_i, gt_i, ge_i, add_i, sub_i, itemsOf, enumOf, Int.cast_ofNat_Int, Int.natCast_one, List.length_map, Int.reduceEq, Int.reduceLT, Int.reduceLE, eL, C1, C2, retv_ok hS]
theorem some_i (hS : Cl S) (d : Nat) {L M : Nat} (hL1 : 1 ≤ L) (hL : L ≤ 200) (hM : M ≤ 200) :
    ∃ js : List Nat, js.Pairwise (· < ·) ∧ (∀ j, j ∈ js → j ≤ L) ∧ 0 ∈ js ∧ L ∈ js ∧ js.length ≤ 1000 ∧ callF T wn (d + 1) "_law_notice_some" [.d (.int L), .d (.int M)] S = .ok (.d (.list (nats js))) S := by
  rw [callF_eq t.some_ rfl, C45.t__law_notice_some]
  simp only [↓evalE_rangeL, startL, List.map_cons, List.map_nil, List.length_cons, List.length_nil, List.replicate, List.replicate_succ, List.replicate_zero, List.cons_append, List.nil_append, List.append_nil, Nat.reduceAdd, Nat.reduceSub, Nat.zero_add, ↓evalE_popAt, ↓evalI_range1, ↓evalI_range2, ↓evalE_mul, ↓evalE_mod, ↓evalE_fdiv, ↓evalE_pow, evalSs, evalS, evalE, evalEs, evalT, evalI, evalO, evalC, SRes.seq_next, SRes.seq_ret, SRes.seq_err, SRes.seq_brk, SRes.seq_cnt, SRes.seq_stuck, Res.bind_ok, Res.bind_err, Res.bind_stuck, Res.st_ok, Res.st_err, Res.st_stuck, ofO_some, ofO_none, asP_d, getV_z, getV_s, Option.bind_some, Option.map_some, Option.bind_none, Option.map_none, biP, on1, ints2, unD, mkL_f, mkL_t, plain_d, truthP, List.set_cons_zero, List.set_cons_succ, ofOS, unpackV, setAll, setAllD, bindT, ite_tru, ite_fls, if_true, if_false, reduceIte, Bool.false_eq_true, Bool.not_true, Bool.not_false, retv_ok, isi_int, isi_bool, isi_tup, bLen, seqV, seqP_t, seqP_l, lstP, intsV, eq_i, ne_i, le_i, lt_i, gt_i, ge_i, add_i, sub_i, itemsOf, enumOf, Int.cast_ofNat_Int, Int.natCast_one, List.length_map, Int.reduceEq, Int.reduceLT, Int.reduceLE]
  by_cases c : (L : Int) ≤ 12
  · obtain ⟨m, em⟩ : ∃ m : Nat, m = L + 1 := ⟨_, rfl⟩
    have em2 : (L : Int) + 1 = (m : Int) := by omega
    refine ⟨List.range m, List.pairwise_lt_range, fun j h => ?_, by simp; omega, by simp; omega, by simp; omega, ?_⟩
    · have : j < m := by simpa using h
      omega
    · simp only [c, decide_true, ↓evalE_popAt, ↓evalI_range1, ↓evalI_range2, ↓evalE_mul, ↓evalE_mod, ↓evalE_fdiv, ↓evalE_pow, evalSs, evalS, evalE, evalEs, evalT, evalI, evalO, evalC, SRes.seq_next, SRes.seq_ret, SRes.seq_err, SRes.seq_brk, SRes.seq_cnt, SRes.seq_stuck, Res.bind_ok, Res.bind_err, Res.bind_stuck, Res.st_ok, Res.st_err, Res.st_stuck, ofO_some, ofO_none, asP_d, getV_z, getV_s, Option.bind_some, Option.map_some, Option.bind_none, Option.map_none, biP, on1, ints2, unD, mkL_f, mkL_t, plain_d, truthP, List.set_cons_zero, List.set_cons_succ, ofOS, unpackV, setAll, setAllD, bindT, ite_tru, ite_fls, if_true, if_false, reduceIte, Bool.false_eq_true, Bool.not_true, Bool.not_false, retv_ok, em2, rgL_i (show m ≤ 1000 by omega), retv_ok hS]
  · have f2 := fdiv_i (b := 2) (by decide) (by decide) (L : Int) S
    have lim : (9 : Nat) ≤ LIM := by decide
    obtain ⟨q, eq⟩ : ∃ q : Int, q = (L : Int).fdiv 2 := ⟨_, rfl⟩
    have near : ∃ near : List Int, near = [0, 1, (M : Int) - 2, (M : Int) - 1, (M : Int), (M : Int) + 1, q, (L : Int) - 1, (L : Int)] := ⟨_, rfl⟩
    obtain ⟨near, en⟩ := near
    have hmem0 : (0 : Int) ∈ near := by rw [en]; simp
    have hmemL : (L : Int) ∈ near := by rw [en]; simp
    have hlen : near.length = 9 := by rw [en]; rfl
    obtain ⟨is, his⟩ : ∃ is : List Int, is = near.filter fun x => decide (0 ≤ x ∧ x ≤ (L : Int)) := ⟨_, rfl⟩
    have hb : ∀ x, x ∈ is → 0 ≤ x ∧ x ≤ (L : Int) := fun x m => by
      rw [his, List.mem_filter] at m
      simpa using m.2
    have hil : is.length < 60 := by rw [his]; have := List.length_filter_le (fun x => decide (0 ≤ x ∧ x ≤ (L : Int))) near; omega
    have ss : (setSort is) = ((setSort is).map Int.toNat).map fun (x : Nat) => (x : Int) := by
      rw [List.map_map]
      conv => lhs; rw [← List.map_id (setSort is)]
      refine List.map_congr_left fun x m => ?_
      have : x ∈ is := setSort_memP.mp m
      have := hb x this
      simp only [id, Function.comp]
      omega
    refine ⟨(setSort is).map Int.toNat, ?_, fun j m => ?_, ?_, ?_, ?_, ?_⟩
    · have p : (setSort is).Pairwise (· < ·) := setSort_ordP
      rw [ss] at p
      refine (List.pairwise_map.mp p).imp fun h => ?_
      omega
    · obtain ⟨x, hx, e⟩ := List.mem_map.mp m
      have := hb x (setSort_memP.mp hx)
      omega
    · refine List.mem_map.mpr ⟨0, setSort_memP.mpr ?_, rfl⟩
      rw [his, List.mem_filter]
      exact ⟨hmem0, by simp⟩
    · refine List.mem_map.mpr ⟨(L : Int), setSort_memP.mpr ?_, by simp⟩
      rw [his, List.mem_filter]
      exact ⟨hmemL, by simp⟩
    · rw [List.length_map]
      have := setSort_lenP is
      omega
    · simp only [c, decide_false, ↓evalE_popAt, ↓evalI_range1, ↓evalI_range2, ↓evalE_mul, ↓evalE_mod, ↓evalE_fdiv, ↓evalE_pow, evalSs, evalS, evalE, evalEs, evalT, evalI, evalO, evalC, SRes.seq_next, SRes.seq_ret, SRes.seq_err, SRes.seq_brk, SRes.seq_cnt, SRes.seq_stuck, Res.bind_ok, Res.bind_err, Res.bind_stuck, Res.st_ok, Res.st_err, Res.st_stuck, ofO_some, ofO_none, asP_d, getV_z, getV_s, Option.bind_some, Option.map_some, Option.bind_none, Option.map_none, biP, on1, ints2, unD, mkL_f, mkL_t, plain_d, truthP, List.set_cons_zero, List.set_cons_succ, ofOS, unpackV, setAll, setAllD, bindT, ite_tru, ite_fls, if_true, if_false, reduceIte, Bool.false_eq_true, Bool.not_true, Bool.not_false, retv_ok, isi_int, isi_bool, isi_tup, bLen, seqV, seqP_t, seqP_l, lstP, intsV, eq_i, ne_i, le_i, lt_i, gt_i, ge_i, add_i, sub_i, itemsOf, enumOf, Int.cast_ofNat_Int, Int.natCast_one, List.length_map, Int.reduceEq, Int.reduceLT, Int.reduceLE, f2, ← eq]
      rw [show ([PyData.int 0, .int 1, .int ((M : Int) - 2), .int ((M : Int) - 1), .int (M : Int), .int ((M : Int) + 1), .int q, .int ((L : Int) - 1), .int (L : Int)] : List PyData) = near.map .int by rw [en]; rfl]
      simp only [List.length_map, hlen, if_pos lim]
      rw [comp_fm (g := fun x => match x with
        | .int i => if 0 ≤ i ∧ i ≤ (L : Int) then some (PyData.int i) else none
        | y => none) rfl]
      · have e : (near.map PyData.int).filterMap (fun x => match x with
            | .int i => if 0 ≤ i ∧ i ≤ (L : Int) then some (PyData.int i) else none
            | y => none) = is.map .int := by
          rw [his]
          clear en hmem0 hmemL hlen his hb hil ss
          induction near with
          | nil => rfl
          | cons x r ih =>
            rw [List.map_cons, List.filterMap_cons, List.filter_cons]
            by_cases c : 0 ≤ x ∧ x ≤ (L : Int)
            · simp only [c, and_self, if_true, decide_true, List.map_cons, ih]
            · simp only [c, if_false, decide_false, Bool.false_eq_true, ih]
        simp only [noErr_ok, ↓evalE_popAt, ↓evalI_range1, ↓evalI_range2, ↓evalE_mul, ↓evalE_mod, ↓evalE_fdiv, ↓evalE_pow, evalSs, evalS, evalE, evalEs, evalT, evalI, evalO, evalC, SRes.seq_next, SRes.seq_ret, SRes.seq_err, SRes.seq_brk, SRes.seq_cnt, SRes.seq_stuck, Res.bind_ok, Res.bind_err, Res.bind_stuck, Res.st_ok, Res.st_err, Res.st_stuck, ofO_some, ofO_none, asP_d, getV_z, getV_s, Option.bind_some, Option.map_some, Option.bind_none, Option.map_none, biP, on1, ints2, unD, mkL_f, mkL_t, plain_d, truthP, List.set_cons_zero, List.set_cons_succ, ofOS, unpackV, setAll, setAllD, bindT, ite_tru, ite_fls, if_true, if_false, reduceIte, Bool.false_eq_true, Bool.not_true, Bool.not_false, retv_ok, isi_int, isi_bool, isi_tup, bLen, seqV, seqP_t, seqP_l, lstP, intsV, eq_i, ne_i, le_i, lt_i, gt_i, ge_i, add_i, sub_i, itemsOf, enumOf, Int.cast_ofNat_Int, Int.natCast_one, List.length_map, Int.reduceEq, Int.reduceLT, Int.reduceLE, List.nil_append, e, intsOf_map, if_pos hil, bNew, retv_ok hS]
        rw [show (setSort is).map PyData.int = nats ((setSort is).map Int.toNat) by
          conv => lhs; rw [ss]
          unfold nats
          rw [List.map_map]; rfl]
      · intro x hx
        obtain ⟨i, _, rfl⟩ := List.mem_map.mp hx
        simp only [compF, wipeL, ↓evalE_popAt, ↓evalI_range1, ↓evalI_range2, ↓evalE_mul, ↓evalE_mod, ↓evalE_fdiv, ↓evalE_pow, evalSs, evalS, evalE, evalEs, evalT, evalI, evalO, evalC, SRes.seq_next, SRes.seq_ret, SRes.seq_err, SRes.seq_brk, SRes.seq_cnt, SRes.seq_stuck, Res.bind_ok, Res.bind_err, Res.bind_stuck, Res.st_ok, Res.st_err, Res.st_stuck, ofO_some, ofO_none, asP_d, getV_z, getV_s, Option.bind_some, Option.map_some, Option.bind_none, Option.map_none, biP, on1, ints2, unD, mkL_f, mkL_t, plain_d, truthP, List.set_cons_zero, List.set_cons_succ, ofOS, unpackV, setAll, setAllD, bindT, ite_tru, ite_fls, if_true, if_false, reduceIte, Bool.false_eq_true, Bool.not_true, Bool.not_false, retv_ok, isi_int, isi_bool, isi_tup, bLen, seqV, seqP_t, seqP_l, lstP, intsV, eq_i, ne_i, le_i, lt_i, gt_i, ge_i, add_i, sub_i, itemsOf, enumOf, Int.cast_ofNat_Int, Int.natCast_one, List.length_map, Int.reduceEq, Int.reduceLT, Int.reduceLE]
        by_cases c1 : 0 ≤ i <;> by_cases c2 : i ≤ (L : Int) <;> simp only [c1, c2, and_self, and_true, and_false, true_and, false_and, decide_true, decide_false, ↓evalE_popAt, ↓evalI_range1, ↓evalI_range2, ↓evalE_mul, ↓evalE_mod, ↓evalE_fdiv, ↓evalE_pow, evalSs, evalS, evalE, evalEs, evalT, evalI, evalO, evalC, SRes.seq_next, SRes.seq_ret, SRes.seq_err, SRes.seq_brk, SRes.seq_cnt, SRes.seq_stuck, Res.bind_ok, Res.bind_err, Res.bind_stuck, Res.st_ok, Res.st_err, Res.st_stuck, ofO_some, ofO_none, asP_d, getV_z, getV_s, Option.bind_some, Option.map_some, Option.bind_none, Option.map_none, biP, on1, ints2, unD, mkL_f, mkL_t, plain_d, truthP, List.set_cons_zero, List.set_cons_succ, ofOS, unpackV, setAll, setAllD, bindT, ite_tru, ite_fls, if_true, if_false, reduceIte, Bool.false_eq_true, Bool.not_true, Bool.not_false, retv_ok]
end EvP
end
section
set_option maxRecDepth 100000
set_option maxHeartbeats 2000000
/-! EvP19: notice day by day: the law (k45). -/
namespace EvP
open Ev PySem L2 MW
theorem head_zero : ∀ {js : List Nat}, js.Pairwise (· < ·) → 0 ∈ js → ∃ r, js = 0 :: r
  | x :: r, h, m => by
    rcases List.mem_cons.mp m with e | m
    · exact ⟨r, by rw [e]⟩
    · have := (List.pairwise_cons.mp h).1 0 m; omega
theorem last_top {L : Nat} : ∀ {js : List Nat}, js.Pairwise (· < ·) → L ∈ js → (∀ j, j ∈ js → j ≤ L) → ∃ r, js = r ++ [L]
  | [x], _, m, _ => ⟨[], by rw [List.mem_singleton.mp m]; rfl⟩
  | x :: y :: r, h, m, hb => by
    have hp := List.pairwise_cons.mp h
    have m2 : L ∈ y :: r := by
      rcases List.mem_cons.mp m with e | m
      · have a := hp.1 y (List.mem_cons_self ..)
        have b := hb y (by simp)
        omega
      · exact m
    obtain ⟨q, e⟩ := last_top hp.2 m2 fun j mj => hb j (List.mem_cons_of_mem _ mj)
    exact ⟨x :: q, by rw [e]; rfl⟩
theorem atI_last (xs : List PyData) (x : PyData) : atI (xs ++ [x]) (-1) = some x := by
  unfold atI ixN
  rw [if_neg (by decide), if_pos (by simp; omega)]
  have e : (-1 + ((xs ++ [x]).length : Int)).toNat = xs.length := by simp; omega
  rw [e]
  simp
theorem one_get (q : Pool) (x : OB) : (pst q ++ [x])[2]? = some x := rfl
theorem one_set (q : Pool) (x y : OB) : (pst q ++ [x]).set 2 y = pst q ++ [y] := rfl
theorem one_nb (xs : List PyData) : NB [OB.lst xs] := NB.nil.cons (by intro _ h; cases h)
theorem need_diff (k L j T' M : Nat) : need k L j T' M - need k L (j + 1) T' M = if j < M then (k : Int) else 0 := by
  rw [need_eq, need_eq, rest_nat, rest_nat]
  by_cases c : j < M
  · rw [if_pos c]
    have e : M - j = (M - (j + 1)) + 1 := by omega
    rw [e, Nat.mul_add, Nat.mul_one]
    omega
  · rw [if_neg c, show M - j = 0 by omega, show M - (j + 1) = 0 by omega]
    omega
theorem need_loan (k L j T' M : Nat) : need k (L + 1) j T' M - need k L j T' M = (k : Int) := by
  rw [need_eq, need_eq, Int.natCast_add, Int.mul_add]
  simp
  omega
theorem need_ends (k L T' M : Nat) : need k L 0 T' M - need k L L T' M = (k : Int) * ((min M L : Nat) : Int) := by
  rw [need_eq, need_eq, rest_nat, rest_nat, ← Int.natCast_mul]
  have e : k * (M - 0) = k * (M - L) + k * min M L := by
    rw [← Nat.mul_add]
    congr 1
    omega
  rw [e]
  omega
theorem need_sml {k L j T' M : Nat} (hk : k ≤ 20) (hL : L ≤ 201) (hT : T' ≤ 400000) (hM : M ≤ 200) : 0 ≤ need k L j T' M ∧ need k L j T' M ≤ 100000000 := by
  rw [need_eq, rest_nat, ← Int.natCast_mul, ← Int.natCast_mul]
  have a := Nat.mul_le_mul hk hT
  have b := Nat.mul_le_mul hk hL
  have c := Nat.mul_le_mul hk (show M - j ≤ 200 by omega)
  omega
variable {T : String → Option Fn} {wn : Nat} (t : T45 T)
include t
theorem law45 (ns : List Int) : ∃ S', callF T wn 20 "law" [.d (.list (ns.map .int))] [] = .ok (.d (.bool true)) S' := by
  obtain ⟨p, e0⟩ := pool_i (wn := wn) t.pool 18 ns
  have A := any_i (wn := wn) t.r 12 NB.nil p (a := 7) (m := 6) (by omega) (by omega) (by omega) (by omega)
  simp only [Int.cast_ofNat_Int, List.append_nil] at A
  obtain ⟨n, ls, p1, hw, hl, e1⟩ := A
  have B := loans_i (wn := wn) t.r.p t.o t.loans 15 NB.nil p1 hw hl
  simp only [List.append_nil] at B
  obtain ⟨k, L, j0, p2, hk, e2⟩ := B
  have n40 := hw.n40
  have cl2 : Cl (pst p2) := by have := cl_pst NB.nil p2; rwa [List.append_nil] at this
  have lt : ls.length < LIM := by unfold LIM; omega
  have lt2 : (sortU (least ls)).length < LIM := by rw [sortU_perm.length_eq]; exact Nat.lt_of_le_of_lt (Nat.le_trans kr_sub.length_le (Nat.le_of_eq sortD_perm.length_eq)) lt
  have mp : mx (sortU (least ls)) = mx (least ls) := mx_perm sortU_perm
  have dp : days (sortU (least ls)) = days (least ls) := days_perm sortU_perm
  have hb := days_le_all hw hl
  have LL := law_least_i (wn := wn) t.o cl2 17 hw.below (by omega) lt
  have LE := law_length_i (wn := wn) t.o t.length cl2 18 lt2
  have LO := law_longest_i (wn := wn) t.o cl2 18 lt2
  rw [mp] at LO
  rw [dp] at LE
  obtain ⟨js, jp, jb, j00, jL, jlen, e3⟩ := some_i (wn := wn) (S := pst p2 ++ [OB.lst []]) t (cl_pst (one_nb []) p2) 18 hk.l1 hk.l200 hb.1
  have c1 : cutP [.str "loans", .int k, .int L, .int j0] (some 1) none = [.int k, .int L, .int j0] := rfl
  generalize hT : days (least ls) = T' at LE hb
  generalize hM : mx (least ls) = M at LO hb e3
  have km := mul_l (a := (k : Int)) (Sm.of (by have := hk.k20; omega) (by have := hk.k20; omega))
  have hk20 := hk.k20
  have hl200 := hk.l200
  -- behind the loop
  have tail : ∀ (j3 j12 j13 : Option DV), ∃ S', outF false 0 (evalSs (callF T wn 19) wn (C45.t_law.body.drop 6) [some (.d (.list (ns.map .int))), some (.ref 1), some (.d (web n ls)), j3, some (.d (loans k L j0)), some (.d (.tuple (wys (sortU (least ls))))), some (.d (.int k)), some (.d (.int L)), some (.d (.int j0)), some (.d (.int T')), some (.d (.int M)), some (.ref 2), j12, j13] (pst p2 ++ [.lst (js.map fun j => .int (need k L j T' M))])) = .ok (.d (.bool true)) S' := by
    intro j3 j12 j13
    have R2 := one_nb (js.map fun j => .int (need k L j T' M))
    have fin : ∀ q : Pool, ∃ S', outF false 0 (evalSs (callF T wn 19) wn (C45.t_law.body.drop 7) [some (.d (.list (ns.map .int))), some (.ref 1), some (.d (web n ls)), j3, some (.d (loans k L j0)), some (.d (.tuple (wys (sortU (least ls))))), some (.d (.int k)), some (.d (.int L)), some (.d (.int j0)), some (.d (.int T')), some (.d (.int M)), some (.ref 2), j12, j13] (pst q ++ [.lst (js.map fun j => .int (need k L j T' M))])) = .ok (.d (.bool true)) S' := by
      intro q
      obtain ⟨r1, er1⟩ := head_zero jp j00
      obtain ⟨r2, er2⟩ := last_top jp jL jb
      have g1 : atI (js.map fun j => PyData.int (need k L j T' M)) 0 = some (.int (need k L 0 T' M)) := by rw [er1]; exact atI_nat (i := 0) rfl
      have g2 : atI (js.map fun j => PyData.int (need k L j T' M)) (-1) = some (.int (need k L L T' M)) := by rw [er2, List.map_append]; exact atI_last _ _
      have em : (if (L : Int) < (M : Int) then (L : Int) else (M : Int)) = ((min M L : Nat) : Int) := min_i _ _
      have ke : (k : Int) * ((min M L : Nat) : Int) = ((k * min M L : Nat) : Int) := by rw [Int.natCast_mul]
      have kb : k * min M L ≤ 20 * 200 := Nat.mul_le_mul hk20 (by omega)
      have rp := repr_i (i := (k : Int) * ((min M L : Nat) : Int)) (by omega) (by omega)
      simp only [C45.t_law, List.drop_succ_cons, List.drop_zero]
      simp only [startL, List.map_cons, List.map_nil, List.length_cons, List.length_nil, List.replicate, List.replicate_succ, List.replicate_zero, List.cons_append, List.nil_append, List.append_nil, Nat.reduceAdd, Nat.reduceSub, Nat.zero_add, ↓evalE_popAt, ↓evalI_range1, ↓evalI_range2, ↓evalE_mul, ↓evalE_mod, ↓evalE_fdiv, ↓evalE_pow, evalSs, evalS, evalE, evalEs, evalT, evalI, evalO, evalC, SRes.seq_next, SRes.seq_ret, SRes.seq_err, SRes.seq_brk, SRes.seq_cnt, SRes.seq_stuck, Res.bind_ok, Res.bind_err, Res.bind_stuck, Res.st_ok, Res.st_err, Res.st_stuck, ofO_some, ofO_none, asP_d, getV_z, getV_s, Option.bind_some, Option.map_some, Option.bind_none, Option.map_none, biP, on1, ints2, unD, mkL_f, mkL_t, plain_d, truthP, List.set_cons_zero, List.set_cons_succ, ofOS, unpackV, setAll, setAllD, bindT, ite_tru, ite_fls, if_true, if_false, reduceIte, Bool.false_eq_true, Bool.not_true, Bool.not_false, retv_ok, isi_int, isi_bool, isi_tup, bLen, seqV, seqP_t, seqP_l, lstP, intsV, eq_i, ne_i, le_i, lt_i, gt_i, ge_i, add_i, sub_i, itemsOf, enumOf, Int.cast_ofNat_Int, Int.natCast_one, List.length_map, Int.reduceEq, Int.reduceLT, Int.reduceLE, one_get, g1, g2, em, km, need_ends, rp, eqs_i]
      exact ⟨[], rfl⟩
    have i0 : ixP (web n ls) (.int 0) = some (.int n) := rfl
    have split : C45.t_law.body.drop 6 = (C45.t_law.body.drop 6).take 1 ++ C45.t_law.body.drop 7 := (List.take_append_drop 1 _).symm
    rw [split, evalSs_append]
    generalize C45.t_law.body.drop 7 = tl at fin ⊢
    simp only [C45.t_law, List.drop_succ_cons, List.drop_zero, List.take_succ_cons, List.take_zero]
    by_cases c : 1 < n
    · have c' : (1 : Int) < (n : Int) := by omega
      obtain ⟨k', tb, q, htb, hk1, hk2, e4⟩ := trips_i (wn := wn) t.r.p t.table t.trips 16 R2 p2 ls (n := n) hw.n1 hw.n40
      have e5 := notice_trips (wn := wn) t.t t.notice (cl_pst R2 q) 12 hw lt htb (by omega) hk1 hk2
      have rp := repr_i (i := 0) (by omega) (by omega)
      have z : (toString (0 : Int)) = "0" := by decide +kernel
      rw [z] at rp
      have nz := nes_i "0"
      simp only [startL, List.map_cons, List.map_nil, List.length_cons, List.length_nil, List.replicate, List.replicate_succ, List.replicate_zero, List.cons_append, List.nil_append, List.append_nil, Nat.reduceAdd, Nat.reduceSub, Nat.zero_add, ↓evalE_popAt, ↓evalI_range1, ↓evalI_range2, ↓evalE_mul, ↓evalE_mod, ↓evalE_fdiv, ↓evalE_pow, evalSs, evalS, evalE, evalEs, evalT, evalI, evalO, evalC, SRes.seq_next, SRes.seq_ret, SRes.seq_err, SRes.seq_brk, SRes.seq_cnt, SRes.seq_stuck, Res.bind_ok, Res.bind_err, Res.bind_stuck, Res.st_ok, Res.st_err, Res.st_stuck, ofO_some, ofO_none, asP_d, getV_z, getV_s, Option.bind_some, Option.map_some, Option.bind_none, Option.map_none, biP, on1, ints2, unD, mkL_f, mkL_t, plain_d, truthP, List.set_cons_zero, List.set_cons_succ, ofOS, unpackV, setAll, setAllD, bindT, ite_tru, ite_fls, if_true, if_false, reduceIte, Bool.false_eq_true, Bool.not_true, Bool.not_false, retv_ok, isi_int, isi_bool, isi_tup, bLen, seqV, seqP_t, seqP_l, lstP, intsV, eq_i, ne_i, le_i, lt_i, gt_i, ge_i, add_i, sub_i, itemsOf, enumOf, Int.cast_ofNat_Int, Int.natCast_one, List.length_map, Int.reduceEq, Int.reduceLT, Int.reduceLE, i0, c', decide_true, e4, e5, rp, nz]
      exact fin q
    · have c' : ¬ (1 : Int) < (n : Int) := by omega
      simp only [startL, List.map_cons, List.map_nil, List.length_cons, List.length_nil, List.replicate, List.replicate_succ, List.replicate_zero, List.cons_append, List.nil_append, List.append_nil, Nat.reduceAdd, Nat.reduceSub, Nat.zero_add, ↓evalE_popAt, ↓evalI_range1, ↓evalI_range2, ↓evalE_mul, ↓evalE_mod, ↓evalE_fdiv, ↓evalE_pow, evalSs, evalS, evalE, evalEs, evalT, evalI, evalO, evalC, SRes.seq_next, SRes.seq_ret, SRes.seq_err, SRes.seq_brk, SRes.seq_cnt, SRes.seq_stuck, Res.bind_ok, Res.bind_err, Res.bind_stuck, Res.st_ok, Res.st_err, Res.st_stuck, ofO_some, ofO_none, asP_d, getV_z, getV_s, Option.bind_some, Option.map_some, Option.bind_none, Option.map_none, biP, on1, ints2, unD, mkL_f, mkL_t, plain_d, truthP, List.set_cons_zero, List.set_cons_succ, ofOS, unpackV, setAll, setAllD, bindT, ite_tru, ite_fls, if_true, if_false, reduceIte, Bool.false_eq_true, Bool.not_true, Bool.not_false, retv_ok, isi_int, isi_bool, isi_tup, bLen, seqV, seqP_t, seqP_l, lstP, intsV, eq_i, ne_i, le_i, lt_i, gt_i, ge_i, add_i, sub_i, itemsOf, enumOf, Int.cast_ofNat_Int, Int.natCast_one, List.length_map, Int.reduceEq, Int.reduceLT, Int.reduceLE, i0, c', decide_false]
      exact fin p2
  have split : C45.t_law.body = C45.t_law.body.take 6 ++ C45.t_law.body.drop 6 := (List.take_append_drop 6 _).symm
  rw [callF_eq t.law rfl, split, evalSs_append]
  show ∃ S', outF false 0 _ = _
  generalize C45.t_law.body.drop 6 = tl at tail ⊢
  simp only [C45.t_law, List.take_succ_cons, List.take_zero]
  have len2 : (pst p2).length = 2 := rfl
  unfold loans at e2 tail
  simp only [startL, List.map_cons, List.map_nil, List.length_cons, List.length_nil, List.replicate, List.replicate_succ, List.replicate_zero, List.cons_append, List.nil_append, List.append_nil, Nat.reduceAdd, Nat.reduceSub, Nat.zero_add, ↓evalE_popAt, ↓evalI_range1, ↓evalI_range2, ↓evalE_mul, ↓evalE_mod, ↓evalE_fdiv, ↓evalE_pow, evalSs, evalS, evalE, evalEs, evalT, evalI, evalO, evalC, SRes.seq_next, SRes.seq_ret, SRes.seq_err, SRes.seq_brk, SRes.seq_cnt, SRes.seq_stuck, Res.bind_ok, Res.bind_err, Res.bind_stuck, Res.st_ok, Res.st_err, Res.st_stuck, ofO_some, ofO_none, asP_d, getV_z, getV_s, Option.bind_some, Option.map_some, Option.bind_none, Option.map_none, biP, on1, ints2, unD, mkL_f, mkL_t, plain_d, truthP, List.set_cons_zero, List.set_cons_succ, ofOS, unpackV, setAll, setAllD, bindT, ite_tru, ite_fls, if_true, if_false, reduceIte, Bool.false_eq_true, Bool.not_true, Bool.not_false, retv_ok, isi_int, isi_bool, isi_tup, bLen, seqV, seqP_t, seqP_l, lstP, intsV, eq_i, ne_i, le_i, lt_i, gt_i, ge_i, add_i, sub_i, itemsOf, enumOf, Int.cast_ofNat_Int, Int.natCast_one, List.length_map, Int.reduceEq, Int.reduceLT, Int.reduceLE, e0, e1, e2, LL, c1, LE, LO, len2, e3]
  refine for_then (P := fun r => ∃ S', outF false 0 (r.seq fun l1 S1 => evalSs (callF T wn 19) wn tl l1 S1) = .ok (.d (.bool true)) S')
    (fun xs l S1 => ∃ (done rest : List Nat) (j3 j12 j13 : Option DV), xs = nats rest ∧ done ++ rest = js ∧ l = [some (.d (.list (ns.map .int))), some (.ref 1), some (.d (web n ls)), j3, some (.d (.tuple [.str "loans", .int k, .int L, .int j0])), some (.d (.tuple (wys (sortU (least ls))))), some (.d (.int k)), some (.d (.int L)), some (.d (.int j0)), some (.d (.int T')), some (.d (.int M)), some (.ref 2), j12, j13] ∧
      S1 = pst p2 ++ [.lst (done.map fun j => .int (need k L j T' M))])
    ⟨[], js, none, none, none, rfl, rfl, rfl, rfl⟩ ?_ ?_
  · rintro x r l S1 ⟨done, rest, j3, j12, j13, ex, ed, el, eS⟩
    cases rest with
    | nil => cases ex
    | cons j rest =>
      cases ex
      have hj : j ≤ L := jb j (by rw [← ed]; simp)
      have hkj : LoansOk k L j := ⟨hk.k1, hk.k20, hk.l1, hk.l200, hj⟩
      have R3 := one_nb (done.map fun j => .int (need k L j T' M))
      have C3 := cl_pst R3 p2
      have R4 := one_nb ((done.map fun j => .int (need k L j T' M)) ++ [.int (need k L j T' M)])
      have C4 := cl_pst R4 p2
      have N1 := needed_i (wn := wn) t.t.n C3 12 hw lt hkj
      have N2 := notice_i (wn := wn) t C4 11 hw lt hkj
      have N3 := loan_i (wn := wn) t C4 12 hw lt hkj
      rw [hT, hM] at N1 N2 N3
      have eB : (if j = L then 0 else need k L j T' M - need k L (j + 1) T' M) = if j < M ∧ j < L then (k : Int) else 0 := by
        rw [need_diff]
        by_cases a : j = L
        · rw [if_pos a, if_neg (by omega)]
        · rw [if_neg a]
          by_cases b : j < M
          · rw [if_pos b, if_pos (by omega)]
          · rw [if_neg b, if_neg (by omega)]
      rw [eB] at N2
      rw [need_loan] at N3
      have eA : (k : Int) * ((T' : Int) + (L : Int) + if (M : Int) - (j : Int) > 0 then (M : Int) - (j : Int) else 0) = need k L j T' M := by
        unfold need
        rw [Int.add_assoc]
      have nb := need_sml (k := k) (L := L) (j := j) (T' := T') (M := M) hk20 (by omega) hb.2 hb.1
      have sA : Sml (need k L j T' M) := ⟨by omega, by omega⟩
      have sK : Sml (k : Int) := ⟨by omega, by omega⟩
      have s0 : Sml 0 := ⟨by decide, by decide⟩
      have rc : recv (.ref 2) (pst p2 ++ [.lst (done.map fun j => .int (need k L j T' M))]) = true := rfl
      have la : lstAt (pst p2 ++ [.lst (done.map fun j => .int (need k L j T' M))]) 2 = some (done.map fun j => .int (need k L j T' M)) := rfl
      have fl : (done.map fun j => PyData.int (need k L j T' M)).length < LIM := by
        have : done.length ≤ js.length := by rw [← ed]; simp
        rw [List.length_map]; unfold LIM; omega
      have ap : mAppend (pst p2 ++ [.lst (done.map fun j => .int (need k L j T' M))]) 2 (done.map fun j => .int (need k L j T' M)) [.d (.int (need k L j T' M))] = .ok (.d .none) (pst p2 ++ [.lst ((done.map fun j => .int (need k L j T' M)) ++ [.int (need k L j T' M)])]) := by
        simp only [mAppend, if_pos fl, one_set]
      have gl := atI_last (done.map fun j => .int (need k L j T' M)) (.int (need k L j T' M))
      unfold loans at N1 N2 N3
      rw [el, eS]
      have done2 : (done.map fun j => PyData.int (need k L j T' M)) ++ [.int (need k L j T' M)] = (done ++ [j]).map fun j => PyData.int (need k L j T' M) := by simp
      simp only [forF, startL, List.map_cons, List.map_nil, List.length_cons, List.length_nil, List.replicate, List.replicate_succ, List.replicate_zero, List.cons_append, List.nil_append, List.append_nil, Nat.reduceAdd, Nat.reduceSub, Nat.zero_add, ↓evalE_popAt, ↓evalI_range1, ↓evalI_range2, ↓evalE_mul, ↓evalE_mod, ↓evalE_fdiv, ↓evalE_pow, evalSs, evalS, evalE, evalEs, evalT, evalI, evalO, evalC, SRes.seq_next, SRes.seq_ret, SRes.seq_err, SRes.seq_brk, SRes.seq_cnt, SRes.seq_stuck, Res.bind_ok, Res.bind_err, Res.bind_stuck, Res.st_ok, Res.st_err, Res.st_stuck, ofO_some, ofO_none, asP_d, getV_z, getV_s, Option.bind_some, Option.map_some, Option.bind_none, Option.map_none, biP, on1, ints2, unD, mkL_f, mkL_t, plain_d, truthP, List.set_cons_zero, List.set_cons_succ, ofOS, unpackV, setAll, setAllD, bindT, ite_tru, ite_fls, if_true, if_false, reduceIte, Bool.false_eq_true, Bool.not_true, Bool.not_false, retv_ok, isi_int, isi_bool, isi_tup, bLen, seqV, seqP_t, seqP_l, lstP, intsV, eq_i, ne_i, le_i, lt_i, gt_i, ge_i, add_i, sub_i, itemsOf, enumOf, Int.cast_ofNat_Int, Int.natCast_one, List.length_map, Int.reduceEq, Int.reduceLT, Int.reduceLE, N1, rc, la, methP, ap, km, eA, one_get, gl, N2, N3]
      by_cases c1 : (j : Int) < (M : Int)
      · by_cases c2 : (j : Int) < (L : Int)
        · have cc : j < M ∧ j < L := by omega
          simp only [c1, c2, decide_true, ↓evalE_popAt, ↓evalI_range1, ↓evalI_range2, ↓evalE_mul, ↓evalE_mod, ↓evalE_fdiv, ↓evalE_pow, evalSs, evalS, evalE, evalEs, evalT, evalI, evalO, evalC, SRes.seq_next, SRes.seq_ret, SRes.seq_err, SRes.seq_brk, SRes.seq_cnt, SRes.seq_stuck, Res.bind_ok, Res.bind_err, Res.bind_stuck, Res.st_ok, Res.st_err, Res.st_stuck, ofO_some, ofO_none, asP_d, getV_z, getV_s, Option.bind_some, Option.map_some, Option.bind_none, Option.map_none, biP, on1, ints2, unD, mkL_f, mkL_t, plain_d, truthP, List.set_cons_zero, List.set_cons_succ, ofOS, unpackV, setAll, setAllD, bindT, ite_tru, ite_fls, if_true, if_false, reduceIte, Bool.false_eq_true, Bool.not_true, Bool.not_false, retv_ok, isi_int, isi_bool, isi_tup, bLen, seqV, seqP_t, seqP_l, lstP, intsV, eq_i, ne_i, le_i, lt_i, gt_i, ge_i, add_i, sub_i, itemsOf, enumOf, Int.cast_ofNat_Int, Int.natCast_one, List.length_map, Int.reduceEq, Int.reduceLT, Int.reduceLE, if_pos cc, one_get, gl, N2, N3, repr3_i sA sK sK, net_i _ (text3_ok _ _ _)]
          exact ⟨_, _, rfl, rfl, done ++ [j], rest, _, _, _, rfl, by rw [← ed]; simp, rfl, by rw [done2]⟩
        · have cc : ¬ (j < M ∧ j < L) := by omega
          simp only [c1, c2, decide_true, decide_false, ↓evalE_popAt, ↓evalI_range1, ↓evalI_range2, ↓evalE_mul, ↓evalE_mod, ↓evalE_fdiv, ↓evalE_pow, evalSs, evalS, evalE, evalEs, evalT, evalI, evalO, evalC, SRes.seq_next, SRes.seq_ret, SRes.seq_err, SRes.seq_brk, SRes.seq_cnt, SRes.seq_stuck, Res.bind_ok, Res.bind_err, Res.bind_stuck, Res.st_ok, Res.st_err, Res.st_stuck, ofO_some, ofO_none, asP_d, getV_z, getV_s, Option.bind_some, Option.map_some, Option.bind_none, Option.map_none, biP, on1, ints2, unD, mkL_f, mkL_t, plain_d, truthP, List.set_cons_zero, List.set_cons_succ, ofOS, unpackV, setAll, setAllD, bindT, ite_tru, ite_fls, if_true, if_false, reduceIte, Bool.false_eq_true, Bool.not_true, Bool.not_false, retv_ok, isi_int, isi_bool, isi_tup, bLen, seqV, seqP_t, seqP_l, lstP, intsV, eq_i, ne_i, le_i, lt_i, gt_i, ge_i, add_i, sub_i, itemsOf, enumOf, Int.cast_ofNat_Int, Int.natCast_one, List.length_map, Int.reduceEq, Int.reduceLT, Int.reduceLE, if_neg cc, one_get, gl, N2, N3, repr3_i sA s0 sK, net_i _ (text3_ok _ _ _)]
          exact ⟨_, _, rfl, rfl, done ++ [j], rest, _, _, _, rfl, by rw [← ed]; simp, rfl, by rw [done2]⟩
      · have cc : ¬ (j < M ∧ j < L) := by omega
        simp only [c1, decide_false, ↓evalE_popAt, ↓evalI_range1, ↓evalI_range2, ↓evalE_mul, ↓evalE_mod, ↓evalE_fdiv, ↓evalE_pow, evalSs, evalS, evalE, evalEs, evalT, evalI, evalO, evalC, SRes.seq_next, SRes.seq_ret, SRes.seq_err, SRes.seq_brk, SRes.seq_cnt, SRes.seq_stuck, Res.bind_ok, Res.bind_err, Res.bind_stuck, Res.st_ok, Res.st_err, Res.st_stuck, ofO_some, ofO_none, asP_d, getV_z, getV_s, Option.bind_some, Option.map_some, Option.bind_none, Option.map_none, biP, on1, ints2, unD, mkL_f, mkL_t, plain_d, truthP, List.set_cons_zero, List.set_cons_succ, ofOS, unpackV, setAll, setAllD, bindT, ite_tru, ite_fls, if_true, if_false, reduceIte, Bool.false_eq_true, Bool.not_true, Bool.not_false, retv_ok, isi_int, isi_bool, isi_tup, bLen, seqV, seqP_t, seqP_l, lstP, intsV, eq_i, ne_i, le_i, lt_i, gt_i, ge_i, add_i, sub_i, itemsOf, enumOf, Int.cast_ofNat_Int, Int.natCast_one, List.length_map, Int.reduceEq, Int.reduceLT, Int.reduceLE, if_neg cc, one_get, gl, N2, N3, repr3_i sA s0 sK, net_i _ (text3_ok _ _ _)]
        exact ⟨_, _, rfl, rfl, done ++ [j], rest, _, _, _, rfl, by rw [← ed]; simp, rfl, by rw [done2]⟩
  · rintro l S1 ⟨done, rest, j3, j12, j13, ex, ed, el, eS⟩
    cases rest with
    | cons j rest => cases ex
    | nil =>
      rw [List.append_nil] at ed
      subst ed
      rw [el, eS]
      simp only [↓evalE_popAt, ↓evalI_range1, ↓evalI_range2, ↓evalE_mul, ↓evalE_mod, ↓evalE_fdiv, ↓evalE_pow, evalSs, evalS, evalE, evalEs, evalT, evalI, evalO, evalC, SRes.seq_next, SRes.seq_ret, SRes.seq_err, SRes.seq_brk, SRes.seq_cnt, SRes.seq_stuck, Res.bind_ok, Res.bind_err, Res.bind_stuck, Res.st_ok, Res.st_err, Res.st_stuck, ofO_some, ofO_none, asP_d, getV_z, getV_s, Option.bind_some, Option.map_some, Option.bind_none, Option.map_none, biP, on1, ints2, unD, mkL_f, mkL_t, plain_d, truthP, List.set_cons_zero, List.set_cons_succ, ofOS, unpackV, setAll, setAllD, bindT, ite_tru, ite_fls, if_true, if_false, reduceIte, Bool.false_eq_true, Bool.not_true, Bool.not_false, retv_ok]
      exact tail _ _ _
end EvP
end
section
set_option maxRecDepth 100000
set_option maxHeartbeats 0
namespace HeadT
open Ev EvP
theorem tw : TW Tb := ⟨rfl, rfl, rfl, rfl, rfl, rfl, rfl, rfl⟩
theorem tl : TL Tb := ⟨tw, rfl, rfl⟩
theorem tn : TN Tb := ⟨tl, rfl, rfl, rfl, rfl, rfl, rfl, rfl, rfl, rfl, rfl, rfl, rfl, rfl, rfl⟩
theorem tt : TT Tb := ⟨tn, rfl, rfl, rfl⟩
theorem tp : TP Tb := ⟨rfl, rfl, rfl, rfl, rfl, rfl⟩
theorem tr : TR Tb := ⟨tp, rfl, rfl⟩
theorem to : TO Tb := ⟨rfl, rfl, rfl⟩
theorem t45 : T45 Tb := ⟨tt, tr, to, rfl, rfl, rfl, rfl, rfl, rfl, rfl, rfl, rfl, rfl⟩
theorem pure45 (ns : List Int) (h : ns.length ≤ 63) : ∃ S', Ev.callF Tb 100000 20 "law" [.d (.list (ns.map .int))] [] = .ok (.d (.bool true)) S' := law45 t45 ns
end HeadT
end
theorem PySem.Challenge.cw_treeandtrip_k45_notice_day_by_day_holds : PySem.Challenge.rw_treeandtrip_k45_notice_day_by_day.Holds := by
  exact law_from HeadT.pure45
