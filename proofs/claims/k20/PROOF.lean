import PyProof.Rows.All
import Wide.All
import OpenK.AllK
import Wide.FinOn
import HandS.ForMost
import HandS.ForExc
import HandS.Evl
import HandS.Deep
import HandS.Rev
import HandS.Conv
import HandS.Lambda
import HandS.TupAny
import HandS.TupMul
import HandS.Style
import HandS.IsInst
import HandS.Flow
import HandS.Zip
import HandS.SortInts
import HandS.NamedTupSort
import HandS.TryMany
import HandS.ExcOwn
import KE.GoesEnum
import HandS.Dict
import KE.KDictDisplayH
import HandS.Gcd
import KE.KMathGC
import KE.DataMinMax
import PyProof.SumAny
import HandS.ExcValue
import KE.SortData
import HandS.Strs
import HandS.SetFor
import PyProof.ConsumeS
import PyProof.ListTruth
import HandS.DictComp
import KE.KDictPairs
import HandS.NoneIn
import HandS.SortKw
import HandS.TupLen
import HandS.WordsDict
import HandS.EndTab
import KE.KNestM
import PySem.Challenge.RW_rungonce_k20_whole_ties_of_two_ways
set_option Elab.async false
set_option linter.all false
set_option maxRecDepth 100000
set_option maxHeartbeats 4000000
/-! Data in place of addresses: what a def does, told by functions on plain data. -/
namespace Pd
open PySem PySem.Spec PyProof.Rows L2
open Evl (Ex)
/-- the tables of code objects in which the text's lambdas are noted, each with its lambdas' name -/
class TabSet where
  T : List (Addr × Str)
def NTb (S : Hp) : Prop := ∀ b o, S b = some o → ∀ ps, o ≠ .tbl ps
theorem nt_upd {S : Hp} {p : Addr} {o : HO} (h : NTb S) (ho : ∀ ps, o ≠ .tbl ps) : NTb (upd S p o) := fun b u e => by
  by_cases hb : b = p
  · subst hb
    rw [upd_same] at e
    cases e
    exact ho
  · rw [upd_ne hb] at e
    exact h b u e
/-- the tables are as they should be, and none of them is shared -/
abbrev tabs [TabSet] (S H : Hp) : Prop := LamX.Tabs TabSet.T H ∧ NTb S
abbrev D := PyData

/-- the datum of a key -/
def keyD : L2.Key → D
  | .inl i => .int i
  | .inr x => .str x
def keysD (ks : List L2.Key) : D := .tuple (ks.map keyD)
/-- the data of a dict with plain keys; of one with tuples as keys, which is marked -/
def kD (kvs : List (L2.Key × D)) : List (D × D) := kvs.map fun p => (keyD p.1, p.2)
def tD (kvs : List (List L2.Key × D)) : List (D × D) := (.none, .none) :: kvs.map fun p => (keysD p.1, p.2)
/-! ### data: what stands at a value, whole -/
mutual
inductive Dq (H : Hp) : V → D → Prop where
  | non : Dq H .non .none
  | bl (b : Bool) : Dq H (.bl b) (.bool b)
  | int (i : Int) : Dq H (.int i) (.int i)
  | str (x : Str) : Dq H (.str x) (.str x)
  | lst {a : Addr} {xs : List V} {ds : List D} : H a = some (.lst xs) → DqAll H xs ds → Dq H (.ref a) (.list ds)
  | tup {a : Addr} {xs : List V} {ds : List D} : H a = some (.tup xs) → DqAll H xs ds → Dq H (.ref a) (.tuple ds)
  | dcK {a : Addr} {kws : List (L2.Key × V)} {kvs : List (L2.Key × D)} : H a = some (.dK kws) → kws.map (·.1) = kvs.map (·.1) → DqAll H (kws.map (·.2)) (kvs.map (·.2)) → Dq H (.ref a) (.dict (kD kvs))
  | dcT {a : Addr} {kws : List (List L2.Key × V)} {kvs : List (List L2.Key × D)} : H a = some (.dT kws) → kws.map (·.1) = kvs.map (·.1) → DqAll H (kws.map (·.2)) (kvs.map (·.2)) → Dq H (.ref a) (.dict (tD kvs))
inductive DqAll (H : Hp) : List V → List D → Prop where
  | nil : DqAll H [] []
  | cons {v : V} {vs : List V} {d : D} {ds : List D} : Dq H v d → DqAll H vs ds → DqAll H (v :: vs) (d :: ds)
end
mutual
theorem dq_dp {K : PySem.W.Frag} {H : Hp} : ∀ {v : V} {d : D}, Dq H v d → d.canLay0 = true → Dp K H v d
  | _, _, .non, _ => .non
  | _, _, .bl b, _ => .bl b
  | _, _, .int i, _ => .int i
  | _, _, .str x, _ => .str x
  | _, _, .lst h a, c => .lst (SqL.of h) (dqa_dp a (by simpa only [PyData.canLay0] using c))
  | _, _, .tup h a, c => .tup (SqT.of h) (dqa_dp a (by simpa only [PyData.canLay0] using c))
  | _, _, .dcK .., c => by simp [PyData.canLay0] at c
  | _, _, .dcT .., c => by simp [PyData.canLay0] at c
theorem dqa_dp {K : PySem.W.Frag} {H : Hp} : ∀ {vs : List V} {ds : List D}, DqAll H vs ds → PyData.canLayAll0 ds = true → DpAll K H vs ds
  | _, _, .nil, _ => .nil
  | _, _, .cons h t, c => .cons (dq_dp h (by simp only [PyData.canLayAll0, Bool.and_eq_true] at c; exact c.1)) (dqa_dp t (by simp only [PyData.canLayAll0, Bool.and_eq_true] at c; exact c.2))
end

/-! ### data stay where the heap grows -/
mutual
theorem dq_ext {H H' : Hp} (e : Ex H H') : ∀ {v : V} {d : D}, Dq H v d → Dq H' v d
  | _, _, .non => .non
  | _, _, .bl b => .bl b
  | _, _, .int i => .int i
  | _, _, .str x => .str x
  | _, _, .lst h a => .lst (e _ _ h) (dqa_ext e a)
  | _, _, .tup h a => .tup (e _ _ h) (dqa_ext e a)
  | _, _, .dcK h l a => .dcK (e _ _ h) l (dqa_ext e a)
  | _, _, .dcT h l a => .dcT (e _ _ h) l (dqa_ext e a)
theorem dqa_ext {H H' : Hp} (e : Ex H H') : ∀ {vs : List V} {ds : List D}, DqAll H vs ds → DqAll H' vs ds
  | _, _, .nil => .nil
  | _, _, .cons h t => .cons (dq_ext e h) (dqa_ext e t)
end
theorem dqa_len {H : Hp} : ∀ {vs : List V} {ds : List D}, DqAll H vs ds → vs.length = ds.length
  | _, _, .nil => rfl
  | _, _, .cons _ t => congrArg (· + 1) (dqa_len t)
theorem dqa_get {H : Hp} : ∀ {vs : List V} {ds : List D} {i : Nat} {v : V}, DqAll H vs ds → vs[i]? = some v → ∃ d, ds[i]? = some d ∧ Dq H v d
  | _, _, i, v, .nil, h => by simp at h
  | _, _, 0, v, .cons a t, h => by
    obtain rfl : _ = v := Option.some.inj h
    exact ⟨_, rfl, a⟩
  | _, _, i + 1, v, .cons a t, h => dqa_get (i := i) t h
theorem dqa_get' {H : Hp} : ∀ {vs : List V} {ds : List D} {i : Nat} {d : D}, DqAll H vs ds → ds[i]? = some d → ∃ v, vs[i]? = some v ∧ Dq H v d
  | _, _, i, d, .nil, h => by simp at h
  | _, _, 0, d, .cons a t, h => by
    obtain rfl : _ = d := Option.some.inj h
    exact ⟨_, rfl, a⟩
  | _, _, i + 1, d, .cons a t, h => dqa_get' (i := i) t h
theorem dqa_app {H : Hp} : ∀ {vs ws : List V} {ds es : List D}, DqAll H vs ds → DqAll H ws es → DqAll H (vs ++ ws) (ds ++ es)
  | _, _, _, _, .nil, h => h
  | _, _, _, _, .cons a t, h => .cons a (dqa_app t h)
theorem dqa_take {H : Hp} : ∀ (n : Nat) {vs : List V} {ds : List D}, DqAll H vs ds → DqAll H (vs.take n) (ds.take n)
  | 0, _, _, _ => .nil
  | _ + 1, _, _, .nil => .nil
  | n + 1, _, _, .cons a t => .cons a (dqa_take n t)
theorem dqa_drop {H : Hp} : ∀ (n : Nat) {vs : List V} {ds : List D}, DqAll H vs ds → DqAll H (vs.drop n) (ds.drop n)
  | 0, _, _, h => h
  | _ + 1, _, _, .nil => .nil
  | n + 1, _, _, .cons a t => dqa_drop n t
theorem dqa_set {H : Hp} {v : V} {d : D} (hv : Dq H v d) : ∀ (i : Nat) {vs : List V} {ds : List D}, DqAll H vs ds → DqAll H (vs.set i v) (ds.set i d)
  | _, _, _, .nil => .nil
  | 0, _, _, .cons a t => .cons hv t
  | i + 1, _, _, .cons a t => .cons a (dqa_set hv i t)
theorem dqa_rev {H : Hp} : ∀ {vs : List V} {ds : List D}, DqAll H vs ds → DqAll H vs.reverse ds.reverse
  | _, _, .nil => .nil
  | _, _, .cons a t => by
    rw [List.reverse_cons, List.reverse_cons]
    exact dqa_app (dqa_rev t) (.cons a .nil)
theorem dqa_erase {H : Hp} (i : Nat) {vs : List V} {ds : List D} (h : DqAll H vs ds) : DqAll H (vs.eraseIdx i) (ds.eraseIdx i) := by
  rw [List.eraseIdx_eq_take_drop_succ, List.eraseIdx_eq_take_drop_succ]
  exact dqa_app (dqa_take _ h) (dqa_drop _ h)
theorem dq_int {H : Hp} {v : V} {i : Int} (h : Dq H v (.int i)) : v = .int i := by cases h; rfl
theorem dq_bool {H : Hp} {v : V} {b : Bool} (h : Dq H v (.bool b)) : v = .bl b := by cases h; rfl
theorem dq_str {H : Hp} {v : V} {x : Str} (h : Dq H v (.str x)) : v = .str x := by cases h; rfl
theorem dq_none {H : Hp} {v : V} (h : Dq H v .none) : v = .non := by cases h; rfl
theorem dq_list {H : Hp} {v : V} {ds : List D} (h : Dq H v (.list ds)) : ∃ a vs, v = .ref a ∧ H a = some (.lst vs) ∧ DqAll H vs ds := by
  cases h with | lst h a => exact ⟨_, _, rfl, h, a⟩
theorem dq_tup {H : Hp} {v : V} {ds : List D} (h : Dq H v (.tuple ds)) : ∃ a vs, v = .ref a ∧ H a = some (.tup vs) ∧ DqAll H vs ds := by
  cases h with | tup h a => exact ⟨_, _, rfl, h, a⟩

/-! ### growth -/
theorem nt_lst {vs : List V} : ∀ ps, HO.lst vs ≠ .tbl ps := fun _ h => nomatch h
theorem tab_lst {H : Hp} {a : Addr} {vs ws : List V} {P : Addr} {q : Str} (t : LamX.TabS H P q) (h : H a = some (.lst vs)) : LamX.TabS (upd H a (.lst ws)) P q := by
  obtain ⟨ps, h1, h2, h3⟩ := t
  refine ⟨ps, by rw [upd_ne (ne_of h1 h (by intro z; cases z))]; exact h1, h2, fun pos cv hc => ?_⟩
  obtain ⟨c, e, e2⟩ := h3 pos cv hc
  exact ⟨c, e, by rw [upd_ne (ne_of e2 h (by unfold LamX.CodeO; intro z; cases z))]; exact e2⟩
theorem tabs_lst {T : List (Addr × Str)} {H : Hp} {a : Addr} {vs ws : List V} (t : LamX.Tabs T H) (h : H a = some (.lst vs)) : LamX.Tabs T (upd H a (.lst ws)) := fun p hp => tab_lst (t p hp) h
/-- what is shared at an address, tuples hidden -/
def nt : Option HO → Option HO
  | some (.tup _) => none
  | x => x
theorem nt_none {S S1 H1 : Hp} {p : Addr} {o : HO} (e : nt (S1 p) = nt (S p)) (n : S p = none) (x : Ex S1 H1) (h : H1 p = some o) (k : ∀ xs, o ≠ .tup xs) : S1 p = none := by
  rw [n] at e
  cases hs : S1 p with
  | none => rfl
  | some u =>
    have h2 := x p u hs
    rw [h] at h2
    cases h2
    rw [hs] at e
    cases o with
    | tup xs => exact absurd rfl (k xs)
    | _ => cases e
variable [TabSet]
/-- S: what all may read and none changes; H: all that is tracked -/
structure Grow (S H S' H' : Hp) : Prop where
  s : Ex S S'
  h : LamX.ExtN H H'
  sub : Ex S' H'
  out : ∀ b o, H b = some o → nt (S' b) = nt (S b)
  dom : ∀ b o, H b = some o → ∃ o', H' b = some o'
  tb : tabs S H → tabs S' H'
theorem Grow.refl {S H : Hp} (e : Ex S H) : Grow S H S H := ⟨Ex.refl S, LamX.ExtN.refl H, e, fun _ _ _ => rfl, fun _ o h => ⟨o, h⟩, fun h => h⟩
theorem Grow.trans {S H S1 H1 S2 H2 : Hp} (a : Grow S H S1 H1) (b : Grow S1 H1 S2 H2) : Grow S H S2 H2 :=
  ⟨a.s.trans b.s, a.h.trans b.h, b.sub, fun x o e => by
    obtain ⟨o', e'⟩ := a.dom x o e
    exact (b.out x o' e').trans (a.out x o e), fun x o e => by
    obtain ⟨o', e'⟩ := a.dom x o e
    exact b.dom x o' e', fun t => b.tb (a.tb t)⟩
theorem ex_upd2 {S H : Hp} (e : Ex S H) {p : Addr} {o : HO} : Ex (upd S p o) (upd H p o) := fun b u h => by
  by_cases hb : b = p
  · subst hb; rw [upd_same] at h ⊢; exact h
  · rw [upd_ne hb] at h ⊢; exact e b u h
theorem Grow.new {S H : Hp} (e : Ex S H) {p : Addr} {o : HO} (hp : H p = none) (hno : ∀ ps, o ≠ .tbl ps := by intro _ z; cases z) : Grow S H (upd S p o) (upd H p o) :=
  ⟨Ex.new (Evl.fresh_back e hp), LamX.ExtN.of (Ex.new hp), ex_upd2 e, fun b u h => congrArg nt (upd_ne (ne_of_none h hp)), fun b u h => ⟨u, Ex.new hp b u h⟩, fun t => ⟨t.1.ext (Ex.new hp), nt_upd t.2 hno⟩⟩

/-! ### slots -/
/-- what a def has for itself: a list, a dict -/
inductive Ob where
  | lst (xs : List D)
  | dct (kvs : List (D × D))
instance : Coe (List D) Ob := ⟨Ob.lst⟩
omit [TabSet] in
/-- the same keys, the values told -/
def KvOk {κ : Type} (S : Hp) (kws : List (κ × V)) (kvs : List (κ × D)) : Prop := kws.map (·.1) = kvs.map (·.1) ∧ DqAll S (kws.map (·.2)) (kvs.map (·.2))
omit [TabSet] in
/-- a dict of either kind -/
def DictAt (S : Hp) (o : HO) (kvs : List (D × D)) : Prop := (∃ kws kk, o = .dK kws ∧ kvs = kD kk ∧ KvOk S kws kk) ∨ ∃ kws kk, o = .dT kws ∧ kvs = tD kk ∧ KvOk S kws kk
omit [TabSet] in
theorem dict_ext {S S' : Hp} (x : Ex S S') {o : HO} {kvs : List (D × D)} (h : DictAt S o kvs) : DictAt S' o kvs := by
  rcases h with ⟨kws, kk, e, e1, e2, q⟩ | ⟨kws, kk, e, e1, e2, q⟩
  · exact .inl ⟨kws, kk, e, e1, e2, dqa_ext x q⟩
  · exact .inr ⟨kws, kk, e, e1, e2, dqa_ext x q⟩
omit [TabSet] in
def ObOk (S : Hp) (o : HO) : Ob → Prop
  | .lst xs => ∃ vs, o = .lst vs ∧ DqAll S vs xs
  | .dct kvs => DictAt S o kvs
omit [TabSet] in
theorem ob_kind {S : Hp} {o : HO} {ob : Ob} (h : ObOk S o ob) : (∃ vs, o = .lst vs) ∨ (∃ k, o = .dK k) ∨ ∃ k, o = .dT k := by
  cases ob
  · obtain ⟨_, e, _⟩ := h; exact .inl ⟨_, e⟩
  · rcases h with ⟨_, _, e, _⟩ | ⟨_, _, e, _⟩
    · exact .inr (.inl ⟨_, e⟩)
    · exact .inr (.inr ⟨_, e⟩)
omit [TabSet] in
theorem ob_nt {S : Hp} {o : HO} {ob : Ob} (h : ObOk S o ob) : ∀ ps, o ≠ .tbl ps := fun ps z => by
  rcases ob_kind h with ⟨_, e⟩ | ⟨_, e⟩ | ⟨_, e⟩ <;> rw [e] at z <;> cases z
omit [TabSet] in
theorem ob_ntup {S : Hp} {o : HO} {ob : Ob} (h : ObOk S o ob) : ∀ ps, o ≠ .tup ps := fun ps z => by
  rcases ob_kind h with ⟨_, e⟩ | ⟨_, e⟩ | ⟨_, e⟩ <;> rw [e] at z <;> cases z
omit [TabSet] in
theorem ob_ext {S S' : Hp} (x : Ex S S') {o : HO} {ob : Ob} (h : ObOk S o ob) : ObOk S' o ob := by
  cases ob
  · obtain ⟨vs, e, q⟩ := h; exact ⟨vs, e, dqa_ext x q⟩
  · exact dict_ext x h
omit [TabSet] in
theorem ob_lst {S : Hp} {vs : List V} {xs : List D} (h : DqAll S vs xs) : ObOk S (.lst vs) (.lst xs) := ⟨vs, rfl, h⟩
omit [TabSet] in
theorem tab_ob {S H : Hp} {a : Addr} {o o' : HO} {ob : Ob} {P : Addr} {q : Str} (t : LamX.TabS H P q) (h : H a = some o) (k : ObOk S o ob) : LamX.TabS (upd H a o') P q := by
  obtain ⟨ps, h1, h2, h3⟩ := t
  refine ⟨ps, by rw [upd_ne (ne_of h1 h (fun z => ob_nt k ps z.symm))]; exact h1, h2, fun pos cv hc => ?_⟩
  obtain ⟨c, e, e2⟩ := h3 pos cv hc
  refine ⟨c, e, ?_⟩
  rw [upd_ne (ne_of e2 h ?_)]
  · exact e2
  · unfold LamX.CodeO
    intro z
    rcases ob_kind k with ⟨_, e⟩ | ⟨_, e⟩ | ⟨_, e⟩ <;> rw [e] at z <;> cases z
omit [TabSet] in
theorem tabs_ob {T : List (Addr × Str)} {S H : Hp} {a : Addr} {o o' : HO} {ob : Ob} (t : LamX.Tabs T H) (h : H a = some o) (k : ObOk S o ob) : LamX.Tabs T (upd H a o') := fun p hp => tab_ob (t p hp) h k
inductive Slot where
  | no
  | sh (d : D)
  | ow (ob : Ob)
  | scr (ns : List Int)
abbrev DE := List Slot
/-- a frame: the heaps at the entry; a list that the caller lends -/
structure Fr where
  H0 : Hp
  S0 : Hp
  io : Option Addr
omit [TabSet] in
def SlotOk (K : PySem.W.Frag) (F : Fr) (S H : Hp) (x : Option V) : Slot → Prop
  | .no => True
  | .sh d => ∃ v, x = some v ∧ Dq S v d
  | .ow ob => ∃ a o, x = some (.ref a) ∧ S a = none ∧ (F.H0 a = none ∨ F.io = some a) ∧ H a = some o ∧ ObOk S o ob
  | .scr ns => ∃ a, x = some (.ref a) ∧ SqL K S a (ns.map V.int)
structure RSt (K : PySem.W.Frag) (F : Fr) (S H : Hp) (σ : L2.St) (δ : DE) : Prop where
  sub : Ex S H
  base : ∀ b o, F.H0 b = some o → (∀ ps, o ≠ .tbl ps) → F.io ≠ some b → H b = some o
  dom0 : ∀ b o, F.H0 b = some o → ∃ o', H b = some o'
  tb0 : tabs F.S0 F.H0 → tabs S H
  s0 : Ex F.S0 S
  out : ∀ b o, F.H0 b = some o → nt (S b) = nt (F.S0 b)
  iop : ∀ b, F.io = some b → ∃ o, H b = some o
  len : σ.length = δ.length
  slot : ∀ (i : Nat) x s, σ[i]? = some x → δ[i]? = some s → SlotOk K F S H x s
  sep : ∀ (i j : Nat) (a : Addr) (xs ys : Ob), δ[i]? = some (.ow xs) → δ[j]? = some (.ow ys) → σ[i]? = some (some (.ref a)) → σ[j]? = some (some (.ref a)) → i = j
  pin : ∀ a, F.io = some a → σ[0]? = some (some (.ref a)) ∧ ∃ xs, δ[0]? = some (.ow xs)
omit [TabSet] in
def Own (σ : L2.St) (δ : DE) (b : Addr) : Prop := ∃ (i : Nat) (xs : Ob), δ[i]? = some (.ow xs) ∧ σ[i]? = some (some (.ref b))
/-- what an expression may do -/
structure Stp (S H S' H' : Hp) (σ : L2.St) (δ δ' : DE) : Prop where
  s : Ex S S'
  out : ∀ b o, H b = some o → nt (S' b) = nt (S b)
  keep : ∀ b o, H b = some o → (∀ ps, o ≠ .tbl ps) → ¬ Own σ δ b → H' b = some o
  dom : ∀ b o, H b = some o → ∃ o', H' b = some o'
  kind : ∀ (i : Nat) xs, δ'[i]? = some (.ow xs) → ∃ ys, δ[i]? = some (.ow ys)
  tb : tabs S H → tabs S' H'
section
variable {K : PySem.W.Frag} {F : Fr} {S H S' H' S1 H1 S2 H2 : Hp} {σ : L2.St} {δ δ' δ1 δ2 : DE}
theorem Stp.refl : Stp S H S H σ δ δ := ⟨Ex.refl S, fun _ _ _ => rfl, fun _ _ h _ _ => h, fun _ o h => ⟨o, h⟩, fun _ xs h => ⟨xs, h⟩, fun h => h⟩
theorem Stp.own (a : Stp S H S1 H1 σ δ δ1) {b : Addr} (h : Own σ δ1 b) : Own σ δ b := by
  obtain ⟨i, xs, h1, h2⟩ := h
  obtain ⟨ys, h3⟩ := a.kind i xs h1
  exact ⟨i, ys, h3, h2⟩
theorem Stp.trans (a : Stp S H S1 H1 σ δ δ1) (b : Stp S1 H1 S2 H2 σ δ1 δ2) : Stp S H S2 H2 σ δ δ2 where
  s := a.s.trans b.s
  out := fun x o h => by
    obtain ⟨o', h'⟩ := a.dom x o h
    exact (b.out x o' h').trans (a.out x o h)
  keep := fun x o h nt n => b.keep x o (a.keep x o h nt n) nt fun q => n (a.own q)
  dom := fun x o h => by
    obtain ⟨o', h'⟩ := a.dom x o h
    exact b.dom x o' h'
  kind := fun i xs h => by
    obtain ⟨ys, h1⟩ := b.kind i xs h
    exact a.kind i ys h1
  tb := fun t => b.tb (a.tb t)
theorem Stp.grow (g : Grow S H S' H') : Stp S H S' H' σ δ δ := ⟨g.s, g.out, fun b o h nt _ => g.h b o h nt, g.dom, fun _ xs h => ⟨xs, h⟩, g.tb⟩
theorem RSt.grow (R : RSt K F S H σ δ) (g : Grow S H S' H') : RSt K F S' H' σ δ where
  sub := g.sub
  base := fun b o h nt n => g.h b o (R.base b o h nt n) nt
  dom0 := fun b o h => by
    obtain ⟨o', h'⟩ := R.dom0 b o h
    exact g.dom b o' h'
  tb0 := fun t => g.tb (R.tb0 t)
  s0 := R.s0.trans g.s
  out := fun b o h => by
    obtain ⟨o', h'⟩ := R.dom0 b o h
    exact (g.out b o' h').trans (R.out b o h)
  iop := fun b h => by
    obtain ⟨o', h'⟩ := R.iop b h
    exact g.dom b o' h'
  len := R.len
  slot := fun i x s h1 h2 => by
    have q := R.slot i x s h1 h2
    cases s with
    | no => trivial
    | sh d =>
      obtain ⟨v, e, p⟩ := q
      exact ⟨v, e, dq_ext g.s p⟩
    | ow xs =>
      obtain ⟨a, vs, e, e1, e2, e3, e4⟩ := q
      exact ⟨a, vs, e, nt_none (g.out a _ e3) e1 g.sub (g.h a _ e3 (ob_nt e4)) (ob_ntup e4), e2, g.h a _ e3 (ob_nt e4), ob_ext g.s e4⟩
    | scr ns =>
      obtain ⟨a, e, q⟩ := q
      exact ⟨a, e, Evl.ex_l g.s q⟩
  sep := R.sep
  pin := R.pin
theorem RSt.frz (R : RSt K F S H σ δ) {p : Addr} (hp : H p = none) : F.H0 p = none ∧ F.io ≠ some p := by
  have h2 : F.io ≠ some p := fun e => by
    obtain ⟨o, h⟩ := R.iop p e
    rw [hp] at h; cases h
  refine ⟨?_, h2⟩
  cases h : F.H0 p with
  | none => rfl
  | some o =>
    obtain ⟨o', q⟩ := R.dom0 p o h
    rw [hp] at q; cases q
theorem RSt.own_in (R : RSt K F S H σ δ) {b : Addr} (h : Own σ δ b) : ∃ o, H b = some o ∧ S b = none := by
  obtain ⟨i, xs, h1, h2⟩ := h
  obtain ⟨a, vs, e, e1, e2, e3, e4⟩ := R.slot i _ _ h2 h1
  have e' : V.ref b = V.ref a := Option.some.inj e
  cases e'
  exact ⟨vs, e3, e1⟩
/-- a slot takes a value -/
theorem RSt.set_sh (R : RSt K F S H σ δ) {v : V} {d : D} (h : Dq S v d) (i : Nat) (h0 : i = 0 → ∀ xs, δ[0]? ≠ some (.ow xs)) : RSt K F S H (σ.set i (some v)) (δ.set i (.sh d)) where
  sub := R.sub
  base := R.base
  dom0 := R.dom0
  tb0 := R.tb0
  s0 := R.s0
  out := R.out
  iop := R.iop
  len := by rw [List.length_set, List.length_set]; exact R.len
  slot := fun j x s h1 h2 => by
    by_cases hj : i = j
    · subst hj
      have hl : i < σ.length := by
        have := (List.getElem?_eq_some_iff.mp h1).1
        rwa [List.length_set] at this
      rw [List.getElem?_set_self hl] at h1
      rw [List.getElem?_set_self (by rw [← R.len]; exact hl)] at h2
      cases h1; cases h2
      exact ⟨v, rfl, h⟩
    · rw [List.getElem?_set_ne hj] at h1 h2
      exact R.slot j x s h1 h2
  sep := fun j k a xs ys h1 h2 h3 h4 => by
    have nj : i ≠ j := fun e => by
      subst e
      by_cases hl : i < δ.length
      · rw [List.getElem?_set_self hl] at h1; cases h1
      · rw [List.getElem?_eq_none (by rw [List.length_set]; omega)] at h1; cases h1
    have nk : i ≠ k := fun e => by
      subst e
      by_cases hl : i < δ.length
      · rw [List.getElem?_set_self hl] at h2; cases h2
      · rw [List.getElem?_eq_none (by rw [List.length_set]; omega)] at h2; cases h2
    rw [List.getElem?_set_ne nj] at h1 h3
    rw [List.getElem?_set_ne nk] at h2 h4
    exact R.sep j k a xs ys h1 h2 h3 h4
  pin := fun a e => by
    obtain ⟨p1, xs, p2⟩ := R.pin a e
    have ni : i ≠ 0 := fun z => h0 z xs p2
    rw [List.getElem?_set_ne ni, List.getElem?_set_ne ni]
    exact ⟨p1, xs, p2⟩
/-- a slot takes a list of its own -/
theorem RSt.set_ow (R : RSt K F S H σ δ) {a : Addr} {vs : HO} {xs : Ob} (h1 : S a = none) (h2 : F.H0 a = none ∨ F.io = some a) (h3 : H a = some vs) (h4 : ObOk S vs xs) (hn : ¬ Own σ δ a) (i : Nat) (h0 : i = 0 → ∀ xs, δ[0]? ≠ some (.ow xs)) :
    RSt K F S H (σ.set i (some (.ref a))) (δ.set i (.ow xs)) where
  sub := R.sub
  base := R.base
  dom0 := R.dom0
  tb0 := R.tb0
  s0 := R.s0
  out := R.out
  iop := R.iop
  len := by rw [List.length_set, List.length_set]; exact R.len
  slot := fun j x s e1 e2 => by
    by_cases hj : i = j
    · subst hj
      have hl : i < σ.length := by
        have := (List.getElem?_eq_some_iff.mp e1).1
        rwa [List.length_set] at this
      rw [List.getElem?_set_self hl] at e1
      rw [List.getElem?_set_self (by rw [← R.len]; exact hl)] at e2
      cases e1; cases e2
      exact ⟨a, vs, rfl, h1, h2, h3, h4⟩
    · rw [List.getElem?_set_ne hj] at e1 e2
      exact R.slot j x s e1 e2
  sep := fun j k b xs' ys e1 e2 e3 e4 => by
    have look : ∀ (m : Nat) zs, (δ.set i (.ow xs))[m]? = some (.ow zs) → (σ.set i (some (.ref a)))[m]? = some (some (.ref b)) → (m = i ∧ b = a) ∨ (m ≠ i ∧ δ[m]? = some (.ow zs) ∧ σ[m]? = some (some (.ref b))) := fun m zs g1 g2 => by
      by_cases hm : i = m
      · subst hm
        have hl : i < σ.length := by
          have := (List.getElem?_eq_some_iff.mp g2).1
          rwa [List.length_set] at this
        rw [List.getElem?_set_self hl] at g2
        cases g2
        exact .inl ⟨rfl, rfl⟩
      · rw [List.getElem?_set_ne hm] at g1 g2
        exact .inr ⟨fun e => hm e.symm, g1, g2⟩
    rcases look j _ e1 e3 with ⟨c1, c2⟩ | ⟨c1, c2, c3⟩ <;> rcases look k _ e2 e4 with ⟨d1, d2⟩ | ⟨d1, d2, d3⟩
    · rw [c1, d1]
    · rw [c2] at d3
      exact absurd ⟨k, ys, d2, d3⟩ hn
    · rw [d2] at c3
      exact absurd ⟨j, xs', c2, c3⟩ hn
    · exact R.sep j k b xs' ys c2 d2 c3 d3
  pin := fun a e => by
    obtain ⟨p1, xs, p2⟩ := R.pin a e
    have ni : i ≠ 0 := fun z => h0 z xs p2
    rw [List.getElem?_set_ne ni, List.getElem?_set_ne ni]
    exact ⟨p1, xs, p2⟩
/-- the own list of a slot is changed -/
theorem RSt.mutO (R : RSt K F S H σ δ) {a : Addr} {i : Nat} {xs ys : Ob} {ws : HO} (hd : δ[i]? = some (.ow xs)) (hs : σ[i]? = some (some (.ref a))) (h4 : ObOk S ws ys) :
    RSt K F S (upd H a ws) σ (δ.set i (.ow ys)) := by
  obtain ⟨a', vs, e, e1, e2, e3, e4⟩ := R.slot i _ _ hs hd
  have e' : V.ref a = V.ref a' := Option.some.inj e
  cases e'
  have hl : i < δ.length := (List.getElem?_eq_some_iff.mp hd).1
  refine ⟨fun b o h => ?_, fun b o h nt n => ?_, fun b o h => ?_, fun t => ⟨tabs_ob (R.tb0 t).1 e3 e4, (R.tb0 t).2⟩, R.s0, R.out, fun b h => ?_, ?_, fun j x s g1 g2 => ?_, fun j k b zs zs' g1 g2 g3 g4 => ?_, fun b h => ?_⟩
  · have hb : b ≠ a := fun z => by rw [z, e1] at h; cases h
    rw [upd_ne hb]; exact R.sub b o h
  · have hb : b ≠ a := fun z => by
      subst z
      rcases e2 with z | z
      · rw [z] at h; cases h
      · exact n z
    rw [upd_ne hb]; exact R.base b o h nt n
  · by_cases hb : b = a
    · subst hb; exact ⟨_, upd_same⟩
    · rw [upd_ne hb]; exact R.dom0 b o h
  · by_cases hb : b = a
    · subst hb; exact ⟨_, upd_same⟩
    · rw [upd_ne hb]; exact R.iop b h
  · rw [List.length_set]; exact R.len
  · by_cases hj : i = j
    · subst hj
      rw [hs] at g1; cases g1
      rw [List.getElem?_set_self hl] at g2; cases g2
      exact ⟨a, ws, rfl, e1, e2, upd_same, h4⟩
    · rw [List.getElem?_set_ne hj] at g2
      have q := R.slot j x s g1 g2
      cases s with
      | no => trivial
      | sh d => exact q
      | scr ns => exact q
      | ow zs =>
        obtain ⟨b, us, f, f1, f2, f3, f4⟩ := q
        have hb : b ≠ a := fun z => by
          subst z
          rw [f] at g1
          exact hj (R.sep i j b xs zs hd g2 hs g1)
        exact ⟨b, us, f, f1, f2, by rw [upd_ne hb]; exact f3, f4⟩
  · have look : ∀ (m : Nat) us, (δ.set i (.ow ys))[m]? = some (.ow us) → ∃ us', δ[m]? = some (.ow us') := fun m us g => by
      by_cases hm : i = m
      · subst hm; exact ⟨xs, hd⟩
      · rw [List.getElem?_set_ne hm] at g; exact ⟨us, g⟩
    obtain ⟨u1, q1⟩ := look j _ g1
    obtain ⟨u2, q2⟩ := look k _ g2
    exact R.sep j k b u1 u2 q1 q2 g3 g4
  · obtain ⟨p1, us, p2⟩ := R.pin b h
    refine ⟨p1, ?_⟩
    by_cases hi : i = 0
    · subst hi
      exact ⟨ys, List.getElem?_set_self hl⟩
    · rw [List.getElem?_set_ne hi]
      exact ⟨us, p2⟩
theorem RSt.mut (R : RSt K F S H σ δ) {a : Addr} {i : Nat} {xs : Ob} {ys : List D} {ws : List V} (hd : δ[i]? = some (.ow xs)) (hs : σ[i]? = some (some (.ref a))) (h4 : DqAll S ws ys) :
    RSt K F S (upd H a (.lst ws)) σ (δ.set i (.ow (.lst ys))) := R.mutO hd hs (ob_lst h4)
/-- an own list is given to all -/
theorem RSt.give (R : RSt K F S H σ δ) {i : Nat} {xs : List D} (hd : δ[i]? = some (.ow (.lst xs))) (hi0 : i ≠ 0) : ∃ a vs S', σ[i]? = some (some (.ref a)) ∧ H a = some (.lst vs) ∧ Ex S S' ∧ S' = upd S a (.lst vs) ∧ DqAll S vs xs ∧ S a = none ∧
    RSt K F S' H σ (δ.set i (.sh (.list xs))) := by
  have hl : i < σ.length := by rw [R.len]; exact (List.getElem?_eq_some_iff.mp hd).1
  obtain ⟨x, hx⟩ : ∃ x, σ[i]? = some x := ⟨_, List.getElem?_eq_getElem hl⟩
  obtain ⟨a, o, rfl, e1, e2, e3, vs, rfl, e4⟩ := R.slot i _ _ hx hd
  have hex : Ex S (upd S a (.lst vs)) := Ex.new e1
  refine ⟨a, vs, upd S a (.lst vs), hx, e3, hex, rfl, e4, e1, ?_⟩
  have hio' : F.io ≠ some a := fun e => by
    obtain ⟨p1, us, p2⟩ := R.pin a e
    exact hi0 (R.sep i 0 a _ us hd p2 hx p1)
  have h0 : F.H0 a = none := e2.resolve_right hio'
  refine ⟨fun b o h => ?_, R.base, R.dom0, fun t => ⟨(R.tb0 t).1, nt_upd (R.tb0 t).2 nt_lst⟩, R.s0.trans hex, fun b o h => ?_, R.iop, by rw [List.length_set]; exact R.len, fun j y s g1 g2 => ?_, fun j k b zs zs' g1 g2 g3 g4 => ?_, fun b h => ?_⟩
  · by_cases hb : b = a
    · subst hb; rw [upd_same] at h; cases h; exact e3
    · rw [upd_ne hb] at h; exact R.sub b o h
  · have hb : b ≠ a := fun z => by rw [z, h0] at h; cases h
    rw [upd_ne hb]; exact R.out b o h
  · by_cases hj : i = j
    · subst hj
      rw [hx] at g1; cases g1
      rw [List.getElem?_set_self (by rw [← R.len]; exact hl)] at g2; cases g2
      exact ⟨_, rfl, .lst upd_same (dqa_ext hex e4)⟩
    · rw [List.getElem?_set_ne hj] at g2
      have q := R.slot j y s g1 g2
      cases s with
      | no => trivial
      | sh d =>
        obtain ⟨v, e, p⟩ := q
        exact ⟨v, e, dq_ext hex p⟩
      | scr ns =>
        obtain ⟨b, e, q⟩ := q
        exact ⟨b, e, Evl.ex_l hex q⟩
      | ow zs =>
        obtain ⟨b, us, f, f1, f2, f3, f4⟩ := q
        have hb : b ≠ a := fun z => by
          subst z
          rw [f] at g1
          exact hj (R.sep i j b xs zs hd g2 hx g1)
        exact ⟨b, us, f, by rw [upd_ne hb]; exact f1, f2, f3, ob_ext hex f4⟩
  · have nj : ∀ (m : Nat) us, (δ.set i (.sh (.list xs)))[m]? = some (.ow us) → δ[m]? = some (.ow us) := fun m us g => by
      by_cases hm : i = m
      · subst hm
        rw [List.getElem?_set_self (by rw [← R.len]; exact hl)] at g; cases g
      · rwa [List.getElem?_set_ne hm] at g
    exact R.sep j k b _ _ (nj j _ g1) (nj k _ g2) g3 g4
  · obtain ⟨p1, us, p2⟩ := R.pin b h
    exact ⟨p1, us, by rw [List.getElem?_set_ne hi0]; exact p2⟩
end
end Pd

/-! Expressions, told by functions on plain data. -/
namespace Pd
open PySem PySem.Spec PyProof.Rows L2
open Evl (Ex)
variable [TabSet]
abbrev M := DE → Option (D × DE)
abbrev MT := DE → Option (Bool × DE)
abbrev MA := DE → Option (List D × DE)
def SE (K : PySem.W.Frag) (F : Fr) (f : M) : TE := fun σ H Q => ∃ S δ d δ', RSt K F S H σ δ ∧ f δ = some (d, δ') ∧
  ∀ v S' H', Stp S H S' H' σ δ δ' → RSt K F S' H' σ δ' → Dq S' v d → Q v H'
def ST (K : PySem.W.Frag) (F : Fr) (f : MT) : TT := fun σ H Q => ∃ S δ b δ', RSt K F S H σ δ ∧ f δ = some (b, δ') ∧
  ∀ S' H', Stp S H S' H' σ δ δ' → RSt K F S' H' σ δ' → Q b H'
def SA (K : PySem.W.Frag) (F : Fr) (f : MA) : TA := fun σ H Q => ∃ S δ ds δ', RSt K F S H σ δ ∧ f δ = some (ds, δ') ∧
  ∀ vs S' H', Stp S H S' H' σ δ δ' → RSt K F S' H' σ δ' → DqAll S' vs ds → Q vs H'
/-- a new list that nobody else holds -/
def SF (K : PySem.W.Frag) (F : Fr) (f : DE → Option (List D × DE)) : TE := fun σ H Q => ∃ S δ ds δ', RSt K F S H σ δ ∧ f δ = some (ds, δ') ∧
  ∀ a vs S' H', Stp S H S' H' σ δ δ' → RSt K F S' H' σ δ' → H a = none → S' a = none → H' a = some (.lst vs) → DqAll S' vs ds → Q (.ref a) H'
section
variable {X : Cx} {F : Fr} {e a b : Expr} {pos : Pos} {f g h : M} {tf tg : MT}
theorem pe_of (h : ∀ S δ d δ' σ H Q, RSt X.K F S H σ δ → f δ = some (d, δ') → (∀ v S' H', Stp S H S' H' σ δ δ' → RSt X.K F S' H' σ δ' → Dq S' v d → Q v H') → ∃ t, PE X e t ∧ t σ H Q) : PE X e (SE X.K F f) :=
  ⟨fun pins s σ H Q I hw => by
    obtain ⟨S, δ, d, δ', R, hf, q⟩ := hw
    obtain ⟨t, ht, hq⟩ := h S δ d δ' σ H Q R hf q
    exact ht.run pins s σ H Q I hq⟩
theorem pt_of (h : ∀ S δ d δ' σ H Q, RSt X.K F S H σ δ → tf δ = some (d, δ') → (∀ S' H', Stp S H S' H' σ δ δ' → RSt X.K F S' H' σ δ' → Q d H') → ∃ t, PT X e t ∧ t σ H Q) : PT X e (ST X.K F tf) :=
  ⟨fun pins s σ H Q I hw => by
    obtain ⟨S, δ, d, δ', R, hf, q⟩ := hw
    obtain ⟨t, ht, hq⟩ := h S δ d δ' σ H Q R hf q
    exact ht.run pins s σ H Q I hq⟩
theorem pw_of (h : ∀ S δ d δ' σ H Q, RSt X.K F S H σ δ → tf δ = some (d, δ') → (∀ S' H', Stp S H S' H' σ δ δ' → RSt X.K F S' H' σ δ' → Q d H') → ∃ t, PW X e t ∧ t σ H Q) : PW X e (ST X.K F tf) :=
  ⟨fun wh pins s σ H Q I hw => by
    obtain ⟨S, δ, d, δ', R, hf, q⟩ := hw
    obtain ⟨t, ht, hq⟩ := h S δ d δ' σ H Q R hf q
    exact ht.run wh pins s σ H Q I hq⟩
theorem pa_of {es : List Expr} {fa : MA} (h : ∀ S δ d δ' σ H Q, RSt X.K F S H σ δ → fa δ = some (d, δ') → (∀ vs S' H', Stp S H S' H' σ δ δ' → RSt X.K F S' H' σ δ' → DqAll S' vs d → Q vs H') → ∃ t, PA X es t ∧ t σ H Q) : PA X es (SA X.K F fa) :=
  ⟨fun pos pins s σ H Q I hw => by
    obtain ⟨S, δ, d, δ', R, hf, q⟩ := hw
    obtain ⟨t, ht, hq⟩ := h S δ d δ' σ H Q R hf q
    exact ht.run pos pins s σ H Q I hq⟩
theorem pf_of {ff : DE → Option (List D × DE)} (h : ∀ S δ d δ' σ H Q, RSt X.K F S H σ δ → ff δ = some (d, δ') → (∀ a vs S' H', Stp S H S' H' σ δ δ' → RSt X.K F S' H' σ δ' → H a = none → S' a = none → H' a = some (.lst vs) → DqAll S' vs d → Q (.ref a) H') → ∃ t, PE X e t ∧ t σ H Q) : PE X e (SF X.K F ff) :=
  ⟨fun pins s σ H Q I hw => by
    obtain ⟨S, δ, d, δ', R, hf, q⟩ := hw
    obtain ⟨t, ht, hq⟩ := h S δ d δ' σ H Q R hf q
    exact ht.run pins s σ H Q I hq⟩

/-! ### names and constants -/
omit [TabSet] in
def fVar (i : Nat) : M := fun δ => match δ[i]? with
  | some (.sh d) => some (d, δ)
  | _ => none
omit [TabSet] in
def fC (d : D) : M := fun δ => some (d, δ)
theorem e_var {i : Nat} {x : Str} (hN : X.N[i]? = some x := by rfl) (hv : Vis X.env.scope x := by first | exact Or.inl rfl | exact Or.inr (Or.inl rfl) | exact Or.inr (Or.inr rfl)) (hd : (x == ("__debug__" : Str)) = false := by decide)
    (hcd : (x == ("__classdict__" : Str)) = false := by decide) : PE X (.Name x pos) (SE X.K F (fVar i)) := by
  refine pe_of fun S δ d δ' σ H Q R hf q => ⟨tVar i, pe_var hN hv hd hcd, ?_⟩
  unfold fVar at hf
  cases hi : δ[i]? with
  | none => rw [hi] at hf; cases hf
  | some s =>
    rw [hi] at hf
    cases s with
    | sh d0 =>
      cases hf
      have hl : i < σ.length := by rw [R.len]; exact (List.getElem?_eq_some_iff.mp hi).1
      obtain ⟨v, ev, dv⟩ := R.slot i _ _ (List.getElem?_eq_getElem hl) hi
      exact ⟨v, by rw [List.getElem?_eq_getElem hl, ev], q v S H Stp.refl R dv⟩
    | _ => cases hf
theorem se_c {d : D} {v : V} (hv : ∀ S, Dq S v d) (hp : PE X e (tC v)) : PE X e (SE X.K F (fC d)) :=
  pe_of fun S δ d' δ' σ H Q R hf q => ⟨tC v, hp, by
    cases hf
    exact q v S H Stp.refl R (hv S)⟩
theorem e_int {i j} : PE X (.Constant (.int i) j pos) (SE X.K F (fC (.int i))) := se_c (fun _ => .int i) pe_int
theorem e_bl {b j} : PE X (.Constant (.bool b) j pos) (SE X.K F (fC (.bool b))) := se_c (fun _ => .bl b) pe_bl
theorem e_non {j} : PE X (.Constant .none j pos) (SE X.K F (fC .none)) := se_c (fun _ => .non) pe_non
theorem e_str {x j} : PE X (.Constant (.str x) j pos) (SE X.K F (fC (.str x))) := se_c (fun _ => .str x) pe_str

/-! ### two operands -/
omit [TabSet] in
def fOp (op : D → D → Option D) (f g : M) : M := fun δ => match f δ with
  | some (x, δ1) => match g δ1 with
    | some (y, δ2) => match op x y with
      | some z => some (z, δ2)
      | none => none
    | none => none
  | none => none
theorem fOp_of {op : D → D → Option D} {δ δ' : DE} {z : D} (h : fOp op f g δ = some (z, δ')) : ∃ x δ1 y, f δ = some (x, δ1) ∧ g δ1 = some (y, δ') ∧ op x y = some z := by
  unfold fOp at h
  cases hx : f δ with
  | none => rw [hx] at h; cases h
  | some p =>
    obtain ⟨x, δ1⟩ := p
    rw [hx] at h
    simp only at h
    cases hy : g δ1 with
    | none => rw [hy] at h; cases h
    | some p =>
      obtain ⟨y, δ2⟩ := p
      rw [hy] at h
      simp only at h
      cases hz : op x y with
      | none => rw [hz] at h; cases h
      | some w =>
        rw [hz] at h
        cases h
        exact ⟨x, δ1, y, rfl, hy, hz⟩
/-- what a rule by values does, on data -/
def DoesV (r : R2) (d e z : D) : Prop := ∀ S H x y Q, Ex S H → Dq S x d → Dq S y e → (∀ v S' H', Grow S H S' H' → Dq S' v z → Q v H') → r x y H Q
theorem se_op {op : D → D → Option D} (h : ∀ d e' z, op d e' = some z → ∃ r : R2, PE X e (tOp r (SE X.K F f) (SE X.K F g)) ∧ DoesV r d e' z) : PE X e (SE X.K F (fOp op f g)) := by
  refine pe_of fun S δ d δ' σ H Q R hf q => ?_
  obtain ⟨x, δ1, y, h1, h2, h3⟩ := fOp_of hf
  obtain ⟨r, hp, hr⟩ := h x y d h3
  refine ⟨_, hp, S, δ, x, δ1, R, h1, fun v S1 H1 s1 R1 d1 => ⟨S1, δ1, y, δ', R1, h2, fun w S2 H2 s2 R2 d2 => ?_⟩⟩
  exact hr S2 H2 v w Q R2.sub (dq_ext s2.s d1) d2 fun u S3 H3 g3 d3 => q u S3 H3 ((s1.trans s2).trans (Stp.grow g3)) (R2.grow g3) d3
theorem grow_tup {S H : Hp} {p : Addr} {vs : List V} {ds : List D} (e : Ex S H) (hp : H p = none) (h : DqAll S vs ds) : Grow S H (upd S p (.tup vs)) (upd H p (.tup vs)) ∧ Dq (upd S p (.tup vs)) (.ref p) (.tuple ds) :=
  ⟨Grow.new e hp, .tup upd_same (dqa_ext (Grow.new e hp).s h)⟩
theorem grow_lst {S H : Hp} {p : Addr} {vs : List V} {ds : List D} (e : Ex S H) (hp : H p = none) (h : DqAll S vs ds) : Grow S H (upd S p (.lst vs)) (upd H p (.lst vs)) ∧ Dq (upd S p (.lst vs)) (.ref p) (.list ds) :=
  ⟨Grow.new e hp, .lst upd_same (dqa_ext (Grow.new e hp).s h)⟩
theorem sz_of {n : Nat} (h : n ≤ 100000) : n ≤ sizeLine := Evl.sz_of h
omit [TabSet] in
def small (i : Int) : Bool := decide (-18446744073709551616 < i) && decide (i < 18446744073709551616)
theorem small_of {i : Int} (h : small i = true) : -(2 ^ 64) < i ∧ i < 2 ^ 64 := by
  unfold small at h
  rw [Bool.and_eq_true, decide_eq_true_eq, decide_eq_true_eq] at h
  omega
omit [TabSet] in
def opAdd : D → D → Option D
  | .int i, .int j => some (.int (i + j))
  | .tuple xs, .tuple ys => if xs.length + ys.length ≤ 100000 then some (.tuple (xs ++ ys)) else none
  | .list xs, .list ys => if xs.length + ys.length ≤ 100000 then some (.list (xs ++ ys)) else none
  | .str x, .str y => if x.length + y.length ≤ 100000 then some (.str (x ++ y)) else none
  | _, _ => none
omit [TabSet] in
def opSub : D → D → Option D
  | .int i, .int j => some (.int (i - j))
  | _, _ => none
omit [TabSet] in
def opMul : D → D → Option D
  | .int i, .int j => if small i || small j then some (.int (i * j)) else none
  | .list xs, .int k => if 0 ≤ k ∧ k ≤ 1000 ∧ xs.length ≤ 100 then some (.list (List.replicate k.toNat xs).flatten) else none
  | .tuple xs, .int k => if 2 ≤ k ∧ k ≤ 1000 ∧ xs.length ≤ 100 ∧ xs ≠ [] then some (.tuple (List.replicate k.toNat xs).flatten) else none
  | _, _ => none
omit [TabSet] in
def opDiv : D → D → Option D
  | .int i, .int j => if j ≠ 0 ∧ j.natAbs < 1073741824 then some (.int (i.fdiv j)) else none
  | _, _ => none
omit [TabSet] in
def opMod : D → D → Option D
  | .int i, .int j => if j ≠ 0 then some (.int (i.fmod j)) else none
  | _, _ => none
omit [TabSet] in
def opPow : D → D → Option D
  | .int i, .int j => if 0 ≤ j ∧ j ≤ 1000 ∧ small i = true then some (.int (i ^ j.toNat)) else none
  | _, _ => none
omit [TabSet] in
def opShl : D → D → Option D
  | .int i, .int j => if 0 ≤ j ∧ j ≤ 1000000 ∧ small i = true then some (.int (i * 2 ^ j.toNat)) else none
  | _, _ => none
omit [TabSet] in
def opShr : D → D → Option D
  | .int i, .int j => if 0 ≤ j then some (.int (i / 2 ^ j.toNat)) else none
  | _, _ => none
omit [TabSet] in
def opAnd : D → D → Option D
  | .int i, .int j => some (.int (Builtin.bitAnd i j))
  | _, _ => none
theorem e_add (ha : PE X a (SE X.K F f)) (hb : PE X b (SE X.K F g)) : PE X (.BinOp a .Add b pos) (SE X.K F (fOp opAdd f g)) := by
  refine se_op fun d e' z hz => ?_
  cases d <;> cases e' <;> simp only [opAdd] at hz <;> first | cases hz | skip
  · exact ⟨_, pe_op op_add ha hb, fun S H x y Q ex h1 h2 q => ⟨_, _, dq_int h1, dq_int h2, q _ S H (Grow.refl ex) (.int _)⟩⟩
  · split at hz
    · rename_i hc
      cases hz
      refine ⟨_, pe_op op_add_str ha hb, fun S H x y Q ex h1 h2 q => ⟨_, _, dq_str h1, dq_str h2, sz_of hc, q _ S H (Grow.refl ex) (.str _)⟩⟩
    · cases hz
  · split at hz
    · rename_i hc
      cases hz
      refine ⟨_, pe_op op_cat ha hb, fun S H x y Q ex h1 h2 q => ?_⟩
      obtain ⟨p1, v1, rfl, e1, d1⟩ := dq_list h1
      obtain ⟨p2, v2, rfl, e2, d2⟩ := dq_list h2
      refine ⟨p1, p2, v1, v2, rfl, rfl, ex _ _ e1, ex _ _ e2, sz_of (by rw [dqa_len d1, dqa_len d2]; exact hc), fun p hp => ?_⟩
      obtain ⟨g1, g2⟩ := grow_lst ex hp (dqa_app d1 d2)
      exact q _ _ _ g1 g2
    · cases hz
  · split at hz
    · rename_i hc
      cases hz
      refine ⟨_, pe_op op_catA ha hb, fun S H x y Q ex h1 h2 q => ?_⟩
      obtain ⟨p1, v1, rfl, e1, d1⟩ := dq_tup h1
      obtain ⟨p2, v2, rfl, e2, d2⟩ := dq_tup h2
      refine ⟨p1, p2, v1, v2, rfl, rfl, SqT.of (ex _ _ e1), SqT.of (ex _ _ e2), sz_of (by rw [dqa_len d1, dqa_len d2]; exact hc), fun hn => ?_, fun _ hn => ?_, fun _ _ p hp => ?_⟩
      · subst hn
        cases d1
        exact q _ S H (Grow.refl ex) (.tup e2 d2)
      · subst hn
        cases d2
        rw [List.append_nil] at q
        exact q _ S H (Grow.refl ex) (.tup e1 d1)
      · obtain ⟨g1, g2⟩ := grow_tup ex hp (dqa_app d1 d2)
        exact q _ _ _ g1 g2
    · cases hz
theorem e_sub (ha : PE X a (SE X.K F f)) (hb : PE X b (SE X.K F g)) : PE X (.BinOp a .Sub b pos) (SE X.K F (fOp opSub f g)) := by
  refine se_op fun d e' z hz => ?_
  cases d <;> cases e' <;> simp only [opSub] at hz <;> first | cases hz | skip
  exact ⟨_, pe_op op_sub ha hb, fun S H x y Q ex h1 h2 q => ⟨_, _, dq_int h1, dq_int h2, q _ S H (Grow.refl ex) (.int _)⟩⟩
theorem dqa_rep {S : Hp} {vs : List V} {ds : List D} (h : DqAll S vs ds) : ∀ n : Nat, DqAll S (List.replicate n vs).flatten (List.replicate n ds).flatten
  | 0 => .nil
  | n + 1 => by
    rw [List.replicate_succ, List.replicate_succ, List.flatten_cons, List.flatten_cons]
    exact dqa_app h (dqa_rep h n)
theorem e_mul (ha : PE X a (SE X.K F f)) (hb : PE X b (SE X.K F g)) : PE X (.BinOp a .Mult b pos) (SE X.K F (fOp opMul f g)) := by
  refine se_op fun d e' z hz => ?_
  cases d <;> cases e' <;> simp only [opMul] at hz <;> first | cases hz | skip
  · split at hz
    · rename_i hc
      cases hz
      refine ⟨_, pe_op op_mul ha hb, fun S H x y Q ex h1 h2 q => ⟨_, _, dq_int h1, dq_int h2, ?_, q _ S H (Grow.refl ex) (.int _)⟩⟩
      rcases (Bool.or_eq_true _ _).mp hc with k | k
      · exact .inl (small_of k)
      · exact .inr (small_of k)
    · cases hz
  · split at hz
    · rename_i hc
      obtain ⟨c1, c2, c3⟩ := hc
      cases hz
      refine ⟨_, pe_op op_rep ha hb, fun S H x y Q ex h1 h2 q => ?_⟩
      obtain ⟨p1, v1, rfl, e1, d1⟩ := dq_list h1
      have hlen := dqa_len d1
      refine ⟨p1, _, v1, rfl, dq_int h2, ex _ _ e1, by omega, by omega, sz_of ?_, fun p hp => ?_⟩
      · rw [hlen]
        exact Nat.le_trans (Nat.mul_le_mul c3 (by omega : _ ≤ 1000)) (by decide)
      · obtain ⟨g1, g2⟩ := grow_lst ex hp (dqa_rep d1 _)
        exact q _ _ _ g1 g2
    · cases hz
  · split at hz
    · rename_i hc
      obtain ⟨c1, c2, c3, c4⟩ := hc
      cases hz
      refine ⟨_, pe_op op_repT ha hb, fun S H x y Q ex h1 h2 q => ?_⟩
      obtain ⟨p1, v1, rfl, e1, d1⟩ := dq_tup h1
      have hlen := dqa_len d1
      refine ⟨p1, _, v1, rfl, dq_int h2, SqT.of (ex _ _ e1), fun hn => ?_, c1, c2, by omega, fun p hp => ?_⟩
      · subst hn
        cases d1
        exact c4 rfl
      · obtain ⟨g1, g2⟩ := grow_tup ex hp (dqa_rep d1 _)
        exact q _ _ _ g1 g2
    · cases hz
theorem e_fdiv (ha : PE X a (SE X.K F f)) (hb : PE X b (SE X.K F g)) : PE X (.BinOp a .FloorDiv b pos) (SE X.K F (fOp opDiv f g)) := by
  refine se_op fun d e' z hz => ?_
  cases d <;> cases e' <;> simp only [opDiv] at hz <;> first | cases hz | skip
  split at hz
  · rename_i hc
    cases hz
    exact ⟨_, pe_op op_fdivN ha hb, fun S H x y Q ex h1 h2 q => ⟨_, _, dq_int h1, dq_int h2, hc, q _ S H (Grow.refl ex) (.int _)⟩⟩
  · cases hz
theorem e_mod (ha : PE X a (SE X.K F f)) (hb : PE X b (SE X.K F g)) : PE X (.BinOp a .Mod b pos) (SE X.K F (fOp opMod f g)) := by
  refine se_op fun d e' z hz => ?_
  cases d <;> cases e' <;> simp only [opMod] at hz <;> first | cases hz | skip
  split at hz
  · rename_i hc
    cases hz
    exact ⟨_, pe_op op_modN ha hb, fun S H x y Q ex h1 h2 q => ⟨_, _, dq_int h1, dq_int h2, hc, q _ S H (Grow.refl ex) (.int _)⟩⟩
  · cases hz
theorem e_pow (ha : PE X a (SE X.K F f)) (hb : PE X b (SE X.K F g)) : PE X (.BinOp a .Pow b pos) (SE X.K F (fOp opPow f g)) := by
  refine se_op fun d e' z hz => ?_
  cases d <;> cases e' <;> simp only [opPow] at hz <;> first | cases hz | skip
  split at hz
  · rename_i i j hc
    cases hz
    have hs := small_of hc.2.2
    exact ⟨_, pe_op op_pow ha hb, fun S H x y Q ex h1 h2 q => ⟨_, _, dq_int h1, dq_int h2, ⟨hc.1, by omega, by omega⟩, q _ S H (Grow.refl ex) (.int _)⟩⟩
  · cases hz
theorem e_shl (ha : PE X a (SE X.K F f)) (hb : PE X b (SE X.K F g)) : PE X (.BinOp a .LShift b pos) (SE X.K F (fOp opShl f g)) := by
  refine se_op fun d e' z hz => ?_
  cases d <;> cases e' <;> simp only [opShl] at hz <;> first | cases hz | skip
  split at hz
  · rename_i i j hc
    cases hz
    have hs := small_of hc.2.2
    exact ⟨_, pe_op op_shl ha hb, fun S H x y Q ex h1 h2 q => ⟨_, _, dq_int h1, dq_int h2, ⟨hc.1, by omega, by omega⟩, q _ S H (Grow.refl ex) (.int _)⟩⟩
  · cases hz
theorem e_shr (ha : PE X a (SE X.K F f)) (hb : PE X b (SE X.K F g)) : PE X (.BinOp a .RShift b pos) (SE X.K F (fOp opShr f g)) := by
  refine se_op fun d e' z hz => ?_
  cases d <;> cases e' <;> simp only [opShr] at hz <;> first | cases hz | skip
  split at hz
  · rename_i i j hc
    cases hz
    exact ⟨_, pe_op op_shr ha hb, fun S H x y Q ex h1 h2 q => ⟨_, _, dq_int h1, dq_int h2, hc, q _ S H (Grow.refl ex) (.int _)⟩⟩
  · cases hz
theorem e_band (ha : PE X a (SE X.K F f)) (hb : PE X b (SE X.K F g)) : PE X (.BinOp a .BitAnd b pos) (SE X.K F (fOp opAnd f g)) := by
  refine se_op fun d e' z hz => ?_
  cases d <;> cases e' <;> simp only [opAnd] at hz <;> first | cases hz | skip
  exact ⟨_, pe_op op_and ha hb, fun S H x y Q ex h1 h2 q => ⟨_, _, dq_int h1, dq_int h2, q _ S H (Grow.refl ex) (.int _)⟩⟩
omit [TabSet] in
/-- -a -/
def fNeg (f : M) : M := fun δ => match f δ with
  | some (.int i, δ1) => some (.int (-i), δ1)
  | _ => none
theorem e_neg (ha : PE X a (SE X.K F f)) : PE X (.UnaryOp .USub a pos) (SE X.K F (fNeg f)) := by
  refine pe_of fun S δ d δ' σ H Q R hf q => ⟨_, pe_un un_neg ha, ?_⟩
  unfold fNeg at hf
  split at hf
  · rename_i i δ1 h1
    cases hf
    exact ⟨S, δ, _, _, R, h1, fun v S1 H1 s1 R1 d1 => ⟨i, dq_int d1, q _ S1 H1 s1 R1 (.int _)⟩⟩
  · cases hf
end
end Pd

/-! Comparisons, tests, displays, places, slices. -/
namespace Pd
open PySem PySem.Spec PyProof.Rows L2
open Evl (Ex)
variable [TabSet]
section
variable {X : Cx} {F : Fr} {e a b c : Expr} {pos : Pos} {f g h : M} {tf tg : MT}

/-! ### comparisons -/
omit [TabSet] in
def fCmp (o : D → D → Option Bool) (f g : M) : M := fOp (fun x y => (o x y).map .bool) f g
omit [TabSet] in
def fCmpT (o : D → D → Option Bool) (f g : M) : MT := fun δ => match fCmp o f g δ with
  | some (.bool b, δ') => some (b, δ')
  | _ => none
omit [TabSet] in
/-- a comparison by a rule by values -/
def CmpOk (X : Cx) (op : CmpOp) (o : D → D → Option Bool) : Prop := ∀ d e k, o d e = some k → ∃ r : R2, OpR X (compareOp op) r ∧ ∀ S H x y Q, Ex S H → Dq S x d → Dq S y e → Q (.bl k) H → r x y H Q
theorem e_cmp {op : CmpOp} {o : D → D → Option Bool} (ho : CmpOk X op o) (ha : PE X a (SE X.K F f)) (hb : PE X b (SE X.K F g)) (hm : behindInMarks op b = false := by first | exact nomark _ | rfl) : PE X (.Compare a [op] [b] pos) (SE X.K F (fCmp o f g)) := by
  refine se_op fun d e' z hz => ?_
  cases hk : o d e' with
  | none => rw [hk] at hz; cases hz
  | some k =>
    rw [hk] at hz
    cases hz
    obtain ⟨r, h1, h2⟩ := ho d e' k hk
    exact ⟨r, pe_cmpR h1 ha hb hm, fun S H x y Q ex d1 d2 q => h2 S H x y Q ex d1 d2 (q _ S H (Grow.refl ex) (.bl k))⟩
theorem t_of_e {ff : M} (hp : ∀ σ H (Q : Bool → Hp → Prop), SE X.K F ff σ H (fun v H' => ∃ k, v = .bl k ∧ Q k H') → ∃ t, PT X e t ∧ t σ H Q) : PT X e (ST X.K F fun δ => match ff δ with
  | some (.bool b, δ') => some (b, δ')
  | _ => none) := by
  refine pt_of fun S δ k δ' σ H Q R hf q => ?_
  cases hz : ff δ with
  | none => rw [hz] at hf; cases hf
  | some p =>
    obtain ⟨z, δ2⟩ := p
    rw [hz] at hf
    cases z with
    | bool k' =>
      cases hf
      exact hp σ H Q ⟨S, δ, .bool k, δ', R, hz, fun v S' H' s' R' dv => ⟨k, dq_bool dv, q S' H' s' R'⟩⟩
    | _ => cases hf
theorem t_cmp {op : CmpOp} {o : D → D → Option Bool} (ho : CmpOk X op o) (ha : PE X a (SE X.K F f)) (hb : PE X b (SE X.K F g)) (hm : behindInMarks op b = false := by first | exact nomark _ | rfl) : PT X (.Compare a [op] [b] pos) (ST X.K F (fCmpT o f g)) := by
  refine t_of_e (ff := fCmp o f g) fun σ H Q hw => ?_
  obtain ⟨S, δ, d, δ', R, hf, q⟩ := hw
  obtain ⟨x, δ1, y, h1, h2, h3⟩ := fOp_of hf
  cases hk : o x y with
  | none => rw [hk] at h3; cases h3
  | some k =>
    rw [hk] at h3
    cases h3
    obtain ⟨r, k1, k2⟩ := ho x y k hk
    refine ⟨_, pt_cmpR k1 ha hb hm, S, δ, x, δ1, R, h1, fun v S1 H1 s1 R1 d1 => ⟨S1, δ1, y, δ', R1, h2, fun w S2 H2 s2 R2 d2 => ?_⟩⟩
    exact k2 S2 H2 v w _ R2.sub (dq_ext s2.s d1) d2 (q _ S2 H2 (s1.trans s2) R2 (.bl k))
omit [TabSet] in
def fChain (o o' : D → D → Option Bool) (f g h : M) : M := fun δ => match f δ with
  | some (x, δ1) => match g δ1 with
    | some (y, δ2) => match o x y with
      | some true => match h δ2 with
        | some (z, δ3) => (o' y z).map fun k => (.bool k, δ3)
        | none => none
      | some false => some (.bool false, δ2)
      | none => none
    | none => none
  | none => none
omit [TabSet] in
def fChainT (o o' : D → D → Option Bool) (f g h : M) : MT := fun δ => match fChain o o' f g h δ with
  | some (.bool b, δ') => some (b, δ')
  | _ => none
theorem chain_run {o o' : D → D → Option Bool} {r r' : R2} {S : Hp} {δ δ' : DE} {d : D} {σ : L2.St} {H : Hp} {Q : VK} {op op' : CmpOp} (ho : CmpOk X op o) (ho' : CmpOk X op' o') (R : RSt X.K F S H σ δ) (hf : fChain o o' f g h δ = some (d, δ'))
    (q : ∀ v S' H', Stp S H S' H' σ δ δ' → RSt X.K F S' H' σ δ' → Dq S' v d → Q v H') : ∃ r r', OpR X (compareOp op) r ∧ OpR X (compareOp op') r' ∧ tChain r r' (SE X.K F f) (SE X.K F g) (SE X.K F h) σ H Q := by
  unfold fChain at hf
  cases h1 : f δ with
  | none => rw [h1] at hf; cases hf
  | some p =>
    obtain ⟨x, δ1⟩ := p
    rw [h1] at hf
    simp only at hf
    cases h2 : g δ1 with
    | none => rw [h2] at hf; cases hf
    | some p =>
      obtain ⟨y, δ2⟩ := p
      rw [h2] at hf
      simp only at hf
      cases hk : o x y with
      | none => rw [hk] at hf; cases hf
      | some k =>
        rw [hk] at hf
        obtain ⟨r, k1, k2⟩ := ho x y k hk
        cases k with
        | false =>
          cases hf
          refine ⟨r, _, k1, op_never, S, δ, x, δ1, R, h1, fun v S1 H1 s1 R1 d1 => ⟨S1, δ1, y, _, R1, h2, fun w S2 H2 s2 R2 d2 => ?_⟩⟩
          exact k2 S2 H2 v w _ R2.sub (dq_ext s2.s d1) d2 ⟨false, rfl, q _ S2 H2 (s1.trans s2) R2 (.bl _)⟩
        | true =>
          simp only at hf
          cases h3 : h δ2 with
          | none => rw [h3] at hf; cases hf
          | some p =>
            obtain ⟨z, δ3⟩ := p
            rw [h3] at hf
            simp only at hf
            cases hk' : o' y z with
            | none => rw [hk'] at hf; cases hf
            | some k' =>
              rw [hk'] at hf
              cases hf
              obtain ⟨r', l1, l2⟩ := ho' y z k' hk'
              refine ⟨r, r', k1, l1, S, δ, x, δ1, R, h1, fun v S1 H1 s1 R1 d1 => ⟨S1, δ1, y, _, R1, h2, fun w S2 H2 s2 R2 d2 => ?_⟩⟩
              refine k2 S2 H2 v w _ R2.sub (dq_ext s2.s d1) d2 ⟨true, rfl, ?_⟩
              show SE X.K F h σ H2 _
              refine ⟨S2, δ2, z, _, R2, h3, fun u S3 H3 s3 R3 d3 => ?_⟩
              exact l2 S3 H3 w u _ R3.sub (dq_ext s3.s d2) d3 (q _ S3 H3 ((s1.trans s2).trans s3) R3 (.bl _))
where op_never {op : CmpOp} : OpR X (compareOp op) (fun _ _ _ _ => False) := fun _ _ _ _ _ _ _ _ _ _ _ _ h => h.elim
theorem e_chain {op op' : CmpOp} {o o' : D → D → Option Bool} (ho : CmpOk X op o) (ho' : CmpOk X op' o') (ha : PE X a (SE X.K F f)) (hb : PE X b (SE X.K F g)) (hc : PE X c (SE X.K F h))
    (hm : lastMarks [op, op'] [b, c] = false := by with_unfolding_all rfl) : PE X (.Compare a [op, op'] [b, c] pos) (SE X.K F (fChain o o' f g h)) :=
  pe_of fun S δ d δ' σ H Q R hf q => by
    obtain ⟨r, r', h1, h2, h3⟩ := chain_run (r := fun _ _ _ _ => False) (r' := fun _ _ _ _ => False) ho ho' R hf q
    exact ⟨_, pe_chain h1 h2 ha hb hc hm, h3⟩
theorem t_chain {op op' : CmpOp} {o o' : D → D → Option Bool} (ho : CmpOk X op o) (ho' : CmpOk X op' o') (ha : PE X a (SE X.K F f)) (hb : PE X b (SE X.K F g)) (hc : PE X c (SE X.K F h))
    (hm : lastMarks [op, op'] [b, c] = false := by with_unfolding_all rfl) : PT X (.Compare a [op, op'] [b, c] pos) (ST X.K F (fChainT o o' f g h)) := by
  refine t_of_e (ff := fChain o o' f g h) fun σ H Q hw => ?_
  obtain ⟨S, δ, d, δ', R, hf, q⟩ := hw
  obtain ⟨r, r', h1, h2, h3⟩ := chain_run (r := fun _ _ _ _ => False) (r' := fun _ _ _ _ => False) ho ho' R hf q
  exact ⟨_, pt_chain h1 h2 ha hb hc hm, h3⟩

omit [TabSet] in
def cLt : D → D → Option Bool
  | .int i, .int j => some (decide (i < j))
  | _, _ => none
omit [TabSet] in
def cLe : D → D → Option Bool
  | .int i, .int j => some (decide (i ≤ j))
  | _, _ => none
omit [TabSet] in
def cGt : D → D → Option Bool
  | .int i, .int j => some (decide (j < i))
  | _, _ => none
omit [TabSet] in
def cGe : D → D → Option Bool
  | .int i, .int j => some (decide (j ≤ i))
  | _, _ => none
omit [TabSet] in
def cEq (d e : D) : Option Bool := if SeqAt.shaped d = true ∧ SeqAt.shaped e = true then some (PyData.eqv d e) else none
omit [TabSet] in
def cNe (d e : D) : Option Bool := if SeqAt.shaped d = true ∧ SeqAt.shaped e = true then some (!PyData.eqv d e) else none
theorem ck_lt : CmpOk X .Lt cLt := fun d e k hk => by
  cases d <;> cases e <;> simp only [cLt] at hk <;> cases hk
  exact ⟨_, op_lt, fun S H x y Q ex h1 h2 q => ⟨_, _, dq_int h1, dq_int h2, q⟩⟩
theorem ck_le : CmpOk X .LtE cLe := fun d e k hk => by
  cases d <;> cases e <;> simp only [cLe] at hk <;> cases hk
  exact ⟨_, op_le, fun S H x y Q ex h1 h2 q => ⟨_, _, dq_int h1, dq_int h2, q⟩⟩
theorem ck_gt : CmpOk X .Gt cGt := fun d e k hk => by
  cases d <;> cases e <;> simp only [cGt] at hk <;> cases hk
  exact ⟨_, op_gt, fun S H x y Q ex h1 h2 q => ⟨_, _, dq_int h1, dq_int h2, q⟩⟩
theorem ck_ge : CmpOk X .GtE cGe := fun d e k hk => by
  cases d <;> cases e <;> simp only [cGe] at hk <;> cases hk
  exact ⟨_, op_ge, fun S H x y Q ex h1 h2 q => ⟨_, _, dq_int h1, dq_int h2, q⟩⟩
theorem ck_eq {n : Nat} (hr : Room n X.A) : CmpOk X .Eq cEq := fun d e k hk => by
  unfold cEq at hk
  split at hk
  · rename_i hc
    cases hk
    exact ⟨_, op_eqD hr.units, fun S H x y Q ex h1 h2 q => ⟨d, e, dq_dp (dq_ext ex h1) (SeqAt.canLay_of_shaped hc.1), dq_dp (dq_ext ex h2) (SeqAt.canLay_of_shaped hc.2), hc.1, hc.2, q⟩⟩
  · cases hk
theorem ck_ne {n : Nat} (hr : Room n X.A) : CmpOk X .NotEq cNe := fun d e k hk => by
  unfold cNe at hk
  split at hk
  · rename_i hc
    cases hk
    exact ⟨_, op_neD hr.units, fun S H x y Q ex h1 h2 q => ⟨d, e, dq_dp (dq_ext ex h1) (SeqAt.canLay_of_shaped hc.1), dq_dp (dq_ext ex h2) (SeqAt.canLay_of_shaped hc.2), hc.1, hc.2, q⟩⟩
  · cases hk
omit [TabSet] in
def isNone : D → Bool
  | .none => true
  | _ => false
omit [TabSet] in
def cIs : D → D → Option Bool
  | d, .none => some (isNone d)
  | .bool a, .bool b => some (decide (a = b))
  | _, _ => none
omit [TabSet] in
def cIsN : D → D → Option Bool
  | d, .none => some (!isNone d)
  | .bool a, .bool b => some (!decide (a = b))
  | _, _ => none
theorem isNone_of {S : Hp} {x : V} {d : D} (h : Dq S x d) : decide (x = V.non) = isNone d := by
  cases h <;> rfl
theorem ck_is : CmpOk X .Is cIs := fun d e k hk => by
  cases e with
  | none =>
    have hk' : k = isNone d := by cases d <;> exact (Option.some.inj hk).symm
    refine ⟨_, op_isN, fun S H x y Q ex h1 h2 q => ⟨dq_none h2, ?_⟩⟩
    rw [isNone_of h1, ← hk']
    exact q
  | bool b' =>
    cases d <;> simp only [cIs] at hk <;> cases hk
    exact ⟨_, op_isBl, fun S H x y Q ex h1 h2 q => ⟨_, _, dq_bool h1, dq_bool h2, q⟩⟩
  | _ => cases d <;> simp only [cIs] at hk <;> cases hk
theorem ck_isn : CmpOk X .IsNot cIsN := fun d e k hk => by
  cases e with
  | none =>
    have hk' : k = !isNone d := by cases d <;> exact (Option.some.inj hk).symm
    refine ⟨_, op_notN, fun S H x y Q ex h1 h2 q => ⟨dq_none h2, ?_⟩⟩
    rw [isNone_of h1, ← hk']
    exact q
  | bool b' =>
    cases d <;> simp only [cIsN] at hk <;> cases hk
    exact ⟨_, op_notBl, fun S H x y Q ex h1 h2 q => ⟨_, _, dq_bool h1, dq_bool h2, q⟩⟩
  | _ => cases d <;> simp only [cIsN] at hk <;> cases hk
omit [TabSet] in
/-- flat data -/
def flat : D → Bool
  | .none => true
  | .bool _ => true
  | .int _ => true
  | .str _ => true
  | _ => false
theorem flat_of {S : Hp} {x : V} {d : D} (h : Dq S x d) (f : flat d = true) : flatV x = true := by
  cases h <;> first | rfl | cases f
theorem flats_of {S : Hp} : ∀ {xs : List V} {ds : List D}, DqAll S xs ds → ds.all flat = true → xs.all flatV = true
  | _, _, .nil, _ => rfl
  | _, _, .cons h t, f => by
    rw [List.all_cons, Bool.and_eq_true] at f
    rw [List.all_cons, flat_of h f.1, flats_of t f.2]
    rfl
theorem eqv_flat {S : Hp} {x y : V} {d e : D} (h1 : Dq S y d) (h2 : Dq S x e) (f : flat d = true) (g : flat e = true) : eqV y x = PyData.eqv d e := by
  cases h1 <;> cases h2 <;> simp_all [flat, eqV, PyData.eqv]
theorem inV_of {S : Hp} {x : V} {d : D} (hx : Dq S x d) (fx : flat d = true) : ∀ {xs : List V} {ds : List D}, DqAll S xs ds → ds.all flat = true → inV x xs = ds.any fun z => PyData.eqv z d
  | _, _, .nil, _ => rfl
  | _, _, .cons h t, f => by
    rw [List.all_cons, Bool.and_eq_true] at f
    have ih := inV_of hx fx t f.2
    unfold inV at ih ⊢
    rw [List.any_cons, List.any_cons, ih, eqv_flat h hx f.1 fx]
omit [TabSet] in
theorem op_inDT {X : Cx} (hu : X.A.units + 65 < cLine) : OpR X (compareOp .In) (fun x y H Q => ∃ d ds, Dp X.K H x d ∧ Dp X.K H y (.tuple ds) ∧ SeqAt.shaped d = true ∧ SeqAt.shaped (.tuple ds) = true ∧ Q (.bl (ds.any fun z => PyData.eqv z d)) H) := by
  intro pins s σ H x y v u Q I rx ry h
  obtain ⟨d, ds, hd, he, sd, se, q⟩ := h
  obtain ⟨as, r1⟩ := Dp.reads I d x v hd rx
  obtain ⟨bs, r2⟩ := Dp.reads I (.tuple ds) y u he ry
  exact SeqAt.in_tuple_reads r2 r1 (SeqAt.canLay_of_shaped se) (SeqAt.canLay_of_shaped sd) (room_in_shaped sd hu) ⟨.bl _, H, I, rfl, q⟩
omit [TabSet] in
theorem op_notInDT {X : Cx} (hu : X.A.units + 65 < cLine) : OpR X (compareOp .NotIn) (fun x y H Q => ∃ d ds, Dp X.K H x d ∧ Dp X.K H y (.tuple ds) ∧ SeqAt.shaped d = true ∧ SeqAt.shaped (.tuple ds) = true ∧ Q (.bl (!ds.any fun z => PyData.eqv z d)) H) := by
  intro pins s σ H x y v u Q I rx ry h
  obtain ⟨d, ds, hd, he, sd, se, q⟩ := h
  obtain ⟨as, r1⟩ := Dp.reads I d x v hd rx
  obtain ⟨bs, r2⟩ := Dp.reads I (.tuple ds) y u he ry
  exact SeqAt.notIn_tuple_reads r2 r1 (SeqAt.canLay_of_shaped se) (SeqAt.canLay_of_shaped sd) (room_in_shaped sd hu) ⟨.bl _, H, I, rfl, q⟩
omit [TabSet] in
def cIn : D → D → Option Bool
  | d, .list ds => if SeqAt.shaped d = true ∧ SeqAt.shaped (.list ds) = true then some (ds.any fun z => PyData.eqv z d) else none
  | d, .tuple ds => if (flat d = true ∧ ds.all flat = true) ∨ (SeqAt.shaped d = true ∧ SeqAt.shaped (.tuple ds) = true) then some (ds.any fun z => PyData.eqv z d) else none
  | _, _ => none
omit [TabSet] in
def cNotIn (d e : D) : Option Bool := (cIn d e).map fun k => !k
theorem hu65 {n : Nat} {A : Around} (hr : Room n A) : A.units + 65 < cLine := by have := hr.un; omega
theorem ck_in {n : Nat} (hr : Room n X.A) : CmpOk X .In cIn := fun d e k hk => by
  cases e <;> simp only [cIn] at hk <;> first | cases hk | skip
  · split at hk
    · rename_i hc
      cases hk
      exact ⟨_, op_inD (hu65 hr), fun S H x y Q ex h1 h2 q => ⟨d, _, dq_dp (dq_ext ex h1) (SeqAt.canLay_of_shaped hc.1), dq_dp (dq_ext ex h2) (SeqAt.canLay_of_shaped hc.2), hc.1, hc.2, q⟩⟩
    · cases hk
  · split at hk
    · rename_i hc
      cases hk
      rcases hc with hc | hc
      · refine ⟨_, op_in_seq, fun S H x y Q ex h1 h2 q => ?_⟩
        obtain ⟨p, vs, rfl, e1, d1⟩ := dq_tup h2
        refine ⟨p, vs, rfl, .inr (SqT.of (ex _ _ e1)), flat_of h1 hc.1, flats_of d1 hc.2, ?_⟩
        rw [if_neg Bool.false_ne_true, inV_of h1 hc.1 d1 hc.2]
        exact q
      · exact ⟨_, op_inDT (hu65 hr), fun S H x y Q ex h1 h2 q => ⟨d, _, dq_dp (dq_ext ex h1) (SeqAt.canLay_of_shaped hc.1), dq_dp (dq_ext ex h2) (SeqAt.canLay_of_shaped hc.2), hc.1, hc.2, q⟩⟩
    · cases hk
theorem ck_notin {n : Nat} (hr : Room n X.A) : CmpOk X .NotIn cNotIn := fun d e k hk => by
  unfold cNotIn at hk
  cases e <;> simp only [cIn] at hk <;> first | cases hk | skip
  · split at hk
    · rename_i hc
      cases hk
      exact ⟨_, op_notInD (hu65 hr), fun S H x y Q ex h1 h2 q => ⟨d, _, dq_dp (dq_ext ex h1) (SeqAt.canLay_of_shaped hc.1), dq_dp (dq_ext ex h2) (SeqAt.canLay_of_shaped hc.2), hc.1, hc.2, q⟩⟩
    · cases hk
  · split at hk
    · rename_i hc
      cases hk
      rcases hc with hc | hc
      · refine ⟨_, op_notIn_seq, fun S H x y Q ex h1 h2 q => ?_⟩
        obtain ⟨p, vs, rfl, e1, d1⟩ := dq_tup h2
        refine ⟨p, vs, rfl, .inr (SqT.of (ex _ _ e1)), flat_of h1 hc.1, flats_of d1 hc.2, ?_⟩
        rw [if_pos rfl, inV_of h1 hc.1 d1 hc.2]
        exact q
      · exact ⟨_, op_notInDT (hu65 hr), fun S H x y Q ex h1 h2 q => ⟨d, _, dq_dp (dq_ext ex h1) (SeqAt.canLay_of_shaped hc.1), dq_dp (dq_ext ex h2) (SeqAt.canLay_of_shaped hc.2), hc.1, hc.2, q⟩⟩
    · cases hk

/-! ### tests -/
omit [TabSet] in
/-- a value that is True or False, as a test -/
def fB (f : M) : MT := fun δ => match f δ with
  | some (.bool b, δ') => some (b, δ')
  | _ => none
theorem t_val (ha : PE X e (SE X.K F f)) (he : ∀ whole, isTrue e X.env whole = (do let v ← whole; standAt e.pos; holding [v] (truthy v)) := by intro _; rfl) : PT X e (ST X.K F (fB f)) :=
  t_of_e (ff := f) fun σ H Q hw => ⟨_, pt_val ha he, hw⟩
omit [TabSet] in
/-- a value's truth -/
def truth : D → Option Bool
  | .none => some false
  | .bool b => some b
  | .int i => some (i != 0)
  | .str x => if x.length ≤ 100000 then some ((x.length : Int) != 0) else none
  | .list ds => some (!ds.isEmpty)
  | .tuple ds => some (!ds.isEmpty)
  | _ => none
theorem dqa_emp {S : Hp} {vs : List V} {ds : List D} (h : DqAll S vs ds) : (!ds.isEmpty) = !vs.isEmpty := by cases h <;> rfl
theorem truth_of {S H : Hp} {K : PySem.W.Frag} {x : V} {d : D} {k : Bool} (ex : Ex S H) (h : Dq S x d) (ht : truth d = some k) : TruV K x H k := by
  cases h with
  | non => exact (Option.some.inj ht).symm
  | bl b => exact (Option.some.inj ht).symm
  | int i => exact (Option.some.inj ht).symm
  | str z =>
    simp only [truth] at ht
    split at ht
    · rename_i hc
      exact ⟨sz_of hc, (Option.some.inj ht).symm⟩
    · cases ht
  | lst e1 d1 =>
    refine .inl ⟨_, SqL.of (ex _ _ e1), ?_⟩
    rw [← dqa_emp d1]
    exact (Option.some.inj ht).symm
  | tup e1 d1 =>
    refine .inr (.inl ⟨_, SqT.of (ex _ _ e1), ?_⟩)
    rw [← dqa_emp d1]
    exact (Option.some.inj ht).symm
  | dcK => simp [truth] at ht
  | dcT => simp [truth] at ht
omit [TabSet] in
def fTruth (f : M) : MT := fun δ => match f δ with
  | some (d, δ') => (truth d).map fun b => (b, δ')
  | _ => none
theorem t_truth (ha : PE X e (SE X.K F f)) (he : ∀ whole, isTrue e X.env whole = (do let v ← whole; standAt e.pos; holding [v] (truthy v)) := by intro _; rfl) : PT X e (ST X.K F (fTruth f)) := by
  refine pt_of fun S δ k δ' σ H Q R hf q => ⟨_, pt_truth ha he, ?_⟩
  unfold fTruth at hf
  cases h1 : f δ with
  | none => rw [h1] at hf; cases hf
  | some p =>
    obtain ⟨d, δ1⟩ := p
    rw [h1] at hf
    simp only at hf
    cases h2 : truth d with
    | none => rw [h2] at hf; cases hf
    | some k' =>
      rw [h2] at hf
      cases hf
      exact ⟨S, δ, d, δ', R, h1, fun v S1 H1 s1 R1 d1 => ⟨k, truth_of R1.sub d1 h2, q S1 H1 s1 R1⟩⟩
omit [TabSet] in
def fNotT (tf : MT) : MT := fun δ => match tf δ with
  | some (b, δ') => some (!b, δ')
  | none => none
theorem t_not (ha : PT X a (ST X.K F tf)) : PT X (.UnaryOp .Not a pos) (ST X.K F (fNotT tf)) := by
  refine pt_of fun S δ k δ' σ H Q R hf q => ⟨_, pt_not ha, ?_⟩
  unfold fNotT at hf
  cases h1 : tf δ with
  | none => rw [h1] at hf; cases hf
  | some p =>
    obtain ⟨b, δ1⟩ := p
    rw [h1] at hf
    cases hf
    exact ⟨S, δ, b, _, R, h1, fun S1 H1 s1 R1 => q S1 H1 s1 R1⟩
omit [TabSet] in
def fAndT (tf tg : MT) : MT := fun δ => match tf δ with
  | some (true, δ') => tg δ'
  | some (false, δ') => some (false, δ')
  | none => none
omit [TabSet] in
def fOrT (tf tg : MT) : MT := fun δ => match tf δ with
  | some (true, δ') => some (true, δ')
  | some (false, δ') => tg δ'
  | none => none
variable {rest : List Expr}
theorem w_and1 (ha : PT X a (ST X.K F tf)) : PW X (.BoolOp .And [a] pos) (ST X.K F tf) := pw_and1 ha
theorem w_or1 (ha : PT X a (ST X.K F tf)) : PW X (.BoolOp .Or [a] pos) (ST X.K F tf) := pw_or1 ha
theorem w_and (ha : PT X a (ST X.K F tf)) (hb : PW X (.BoolOp .And (b :: rest) pos) (ST X.K F tg)) : PW X (.BoolOp .And (a :: b :: rest) pos) (ST X.K F (fAndT tf tg)) := by
  refine pw_of fun S δ k δ' σ H Q R hf q => ⟨_, pw_and ha hb, ?_⟩
  unfold fAndT at hf
  cases h1 : tf δ with
  | none => rw [h1] at hf; cases hf
  | some p =>
    obtain ⟨k1, δ1⟩ := p
    rw [h1] at hf
    cases k1 with
    | true => exact ⟨S, δ, true, δ1, R, h1, fun S1 H1 s1 R1 => ⟨S1, δ1, k, δ', R1, hf, fun S2 H2 s2 R2 => q S2 H2 (s1.trans s2) R2⟩⟩
    | false =>
      cases hf
      exact ⟨S, δ, false, _, R, h1, fun S1 H1 s1 R1 => q S1 H1 s1 R1⟩
theorem w_or (ha : PT X a (ST X.K F tf)) (hb : PW X (.BoolOp .Or (b :: rest) pos) (ST X.K F tg)) : PW X (.BoolOp .Or (a :: b :: rest) pos) (ST X.K F (fOrT tf tg)) := by
  refine pw_of fun S δ k δ' σ H Q R hf q => ⟨_, pw_or ha hb, ?_⟩
  unfold fOrT at hf
  cases h1 : tf δ with
  | none => rw [h1] at hf; cases hf
  | some p =>
    obtain ⟨k1, δ1⟩ := p
    rw [h1] at hf
    cases k1 with
    | true =>
      cases hf
      exact ⟨S, δ, true, _, R, h1, fun S1 H1 s1 R1 => q S1 H1 s1 R1⟩
    | false => exact ⟨S, δ, false, δ1, R, h1, fun S1 H1 s1 R1 => ⟨S1, δ1, k, δ', R1, hf, fun S2 H2 s2 R2 => q S2 H2 (s1.trans s2) R2⟩⟩
omit [TabSet] in
def fAndV (f g : M) : M := fun δ => match f δ with
  | some (.bool true, δ') => g δ'
  | some (.bool false, δ') => some (.bool false, δ')
  | _ => none
omit [TabSet] in
def fOrV (f g : M) : M := fun δ => match f δ with
  | some (.bool true, δ') => some (.bool true, δ')
  | some (.bool false, δ') => g δ'
  | _ => none
theorem e_one {op} (ha : PE X a (SE X.K F f)) : PE X (.BoolOp op [a] pos) (SE X.K F f) := pe_one ha
theorem e_and (ha : PE X a (SE X.K F f)) (hb : PE X (.BoolOp .And (b :: rest) pos) (SE X.K F g)) : PE X (.BoolOp .And (a :: b :: rest) pos) (SE X.K F (fAndV f g)) := by
  refine pe_of fun S δ d δ' σ H Q R hf q => ⟨_, pe_and ha hb, ?_⟩
  unfold fAndV at hf
  split at hf
  · rename_i δ1 h1
    exact ⟨S, δ, _, δ1, R, h1, fun v S1 H1 s1 R1 d1 => ⟨true, dq_bool d1, S1, δ1, d, δ', R1, hf, fun w S2 H2 s2 R2 d2 => q w S2 H2 (s1.trans s2) R2 d2⟩⟩
  · rename_i δ1 h1
    cases hf
    exact ⟨S, δ, _, _, R, h1, fun v S1 H1 s1 R1 d1 => ⟨false, dq_bool d1, q _ S1 H1 s1 R1 (.bl false)⟩⟩
  · cases hf
theorem e_or (ha : PE X a (SE X.K F f)) (hb : PE X (.BoolOp .Or (b :: rest) pos) (SE X.K F g)) : PE X (.BoolOp .Or (a :: b :: rest) pos) (SE X.K F (fOrV f g)) := by
  refine pe_of fun S δ d δ' σ H Q R hf q => ⟨_, pe_or ha hb, ?_⟩
  unfold fOrV at hf
  split at hf
  · rename_i δ1 h1
    cases hf
    exact ⟨S, δ, _, _, R, h1, fun v S1 H1 s1 R1 d1 => ⟨true, dq_bool d1, q _ S1 H1 s1 R1 (.bl true)⟩⟩
  · rename_i δ1 h1
    exact ⟨S, δ, _, δ1, R, h1, fun v S1 H1 s1 R1 d1 => ⟨false, dq_bool d1, S1, δ1, d, δ', R1, hf, fun w S2 H2 s2 R2 d2 => q w S2 H2 (s1.trans s2) R2 d2⟩⟩
  · cases hf
omit [TabSet] in
def fNotV (f : M) : M := fun δ => match f δ with
  | some (.bool b, δ') => some (.bool (!b), δ')
  | _ => none
theorem e_not (ha : PE X a (SE X.K F f)) : PE X (.UnaryOp .Not a pos) (SE X.K F (fNotV f)) := by
  refine pe_of fun S δ d δ' σ H Q R hf q => ⟨_, pe_not ha, ?_⟩
  unfold fNotV at hf
  split at hf
  · rename_i b δ1 h1
    cases hf
    exact ⟨S, δ, _, _, R, h1, fun v S1 H1 s1 R1 d1 => ⟨b, dq_bool d1, q _ S1 H1 s1 R1 (.bl _)⟩⟩
  · cases hf
omit [TabSet] in
def fIf (tf : MT) (f g : M) : M := fun δ => match tf δ with
  | some (true, δ') => f δ'
  | some (false, δ') => g δ'
  | none => none
theorem e_if (hc : PT X c (ST X.K F tf)) (ha : PE X a (SE X.K F f)) (hb : PE X b (SE X.K F g)) : PE X (.IfExp c a b pos) (SE X.K F (fIf tf f g)) := by
  refine pe_of fun S δ d δ' σ H Q R hf q => ⟨_, pe_ifExp hc ha hb, ?_⟩
  unfold fIf at hf
  cases h1 : tf δ with
  | none => rw [h1] at hf; cases hf
  | some p =>
    obtain ⟨k1, δ1⟩ := p
    rw [h1] at hf
    refine ⟨S, δ, k1, δ1, R, h1, fun S1 H1 s1 R1 => ?_⟩
    cases k1 with
    | true => exact ⟨S1, δ1, d, δ', R1, hf, fun v S2 H2 s2 R2 d2 => q v S2 H2 (s1.trans s2) R2 d2⟩
    | false => exact ⟨S1, δ1, d, δ', R1, hf, fun v S2 H2 s2 R2 d2 => q v S2 H2 (s1.trans s2) R2 d2⟩

/-! ### argument lists, displays -/
variable {es : List Expr} {fa ga : MA}
omit [TabSet] in
def aNil : MA := fun δ => some ([], δ)
omit [TabSet] in
def aCons (f : M) (fa : MA) : MA := fun δ => match f δ with
  | some (d, δ1) => match fa δ1 with
    | some (ds, δ2) => some (d :: ds, δ2)
    | none => none
  | none => none
theorem a_nil : PA X [] (SA X.K F aNil) := pa_of fun S δ ds δ' σ H Q R hf q => ⟨_, pa_nil, by
  cases hf
  exact q [] S H Stp.refl R .nil⟩
theorem a_cons (ha : PE X e (SE X.K F f)) (hr : PA X es (SA X.K F fa)) (hs : starEach (e :: es) X.env = (false, eval e X.env) :: starEach es X.env := by rfl) : PA X (e :: es) (SA X.K F (aCons f fa)) := by
  refine pa_of fun S δ ds δ' σ H Q R hf q => ⟨_, pa_cons ha hr hs, ?_⟩
  unfold aCons at hf
  cases h1 : f δ with
  | none => rw [h1] at hf; cases hf
  | some p =>
    obtain ⟨d, δ1⟩ := p
    rw [h1] at hf
    simp only at hf
    cases h2 : fa δ1 with
    | none => rw [h2] at hf; cases hf
    | some p =>
      obtain ⟨ds2, δ2⟩ := p
      rw [h2] at hf
      cases hf
      exact ⟨S, δ, d, δ1, R, h1, fun v S1 H1 s1 R1 d1 => ⟨S1, δ1, ds2, _, R1, h2, fun vs S2 H2 s2 R2 d2 => q (v :: vs) S2 H2 (s1.trans s2) R2 (.cons (dq_ext s2.s d1) d2)⟩⟩
omit [TabSet] in
def fTup (fa : MA) : M := fun δ => match fa δ with
  | some (ds, δ') => if ds.length ≤ 100000 then some (.tuple ds, δ') else none
  | none => none
theorem e_tup {x1} (ha : PA X es (SA X.K F fa)) : PE X (.Tuple es x1 pos) (SE X.K F (fTup fa)) := by
  refine pe_of fun S δ d δ' σ H Q R hf q => ⟨_, pe_tup ha, ?_⟩
  unfold fTup at hf
  cases h1 : fa δ with
  | none => rw [h1] at hf; cases hf
  | some p =>
    obtain ⟨ds, δ1⟩ := p
    rw [h1] at hf
    simp only at hf
    split at hf
    · rename_i hc
      cases hf
      refine ⟨S, δ, ds, _, R, h1, fun vs S1 H1 s1 R1 d1 => ⟨sz_of (by rw [dqa_len d1]; exact hc), fun p hp => ?_⟩⟩
      obtain ⟨g1, g2⟩ := grow_tup R1.sub hp d1
      exact q _ _ _ (s1.trans (Stp.grow g1)) (R1.grow g1) g2
    · cases hf
/-- a new list is laid, nobody else holds it -/
theorem lay_fresh {K : PySem.W.Frag} {S H : Hp} {σ : L2.St} {δ : DE} (R : RSt K F S H σ δ) {p : Addr} {o : HO} (hp : H p = none) : RSt K F S (upd H p o) σ δ ∧ Stp S H S (upd H p o) σ δ δ ∧ S p = none := by
  have hS : S p = none := Evl.fresh_back R.sub hp
  obtain ⟨z1, z2⟩ := R.frz hp
  have ne : ∀ b u, H b = some u → b ≠ p := fun b u e => ne_of_none e hp
  have xn : Ex H (upd H p o) := Ex.new hp
  refine ⟨⟨fun b u e => ?_, fun b u e nt n => ?_, fun b u e => ?_, fun t => ⟨(R.tb0 t).1.ext xn, (R.tb0 t).2⟩, R.s0, R.out, fun b e => ?_, R.len, fun i x s h1 h2 => ?_, R.sep, R.pin⟩, ⟨Ex.refl S, fun _ _ _ => rfl, fun b u e _ _ => by rw [upd_ne (ne b u e)]; exact e, fun b u e => ⟨u, by rw [upd_ne (ne b u e)]; exact e⟩, fun _ xs h => ⟨xs, h⟩, fun t => ⟨t.1.ext xn, t.2⟩⟩, hS⟩
  · rw [upd_ne (ne b u (R.sub b u e))]; exact R.sub b u e
  · have q := R.base b u e nt n
    rw [upd_ne (ne b u q)]; exact q
  · obtain ⟨u', q⟩ := R.dom0 b u e
    exact ⟨u', by rw [upd_ne (ne b u' q)]; exact q⟩
  · obtain ⟨u, q⟩ := R.iop b e
    exact ⟨u, by rw [upd_ne (ne b u q)]; exact q⟩
  · have q := R.slot i x s h1 h2
    cases s with
    | no => trivial
    | sh d => exact q
    | scr ns => exact q
    | ow xs =>
      obtain ⟨a, vs, e, e1, e2, e3, e4⟩ := q
      exact ⟨a, vs, e, e1, e2, by rw [upd_ne (ne a _ e3)]; exact e3, e4⟩
/-- .. and given to all -/
theorem share_fresh {K : PySem.W.Frag} {S0 H0 S H : Hp} {σ : L2.St} {δ0 δ : DE} (R0 : RSt K F S0 H0 σ δ0) (s : Stp S0 H0 S H σ δ0 δ) (R : RSt K F S H σ δ) {p : Addr} {vs : List V} (h0 : H0 p = none) (hS : S p = none) (hp : H p = some (.lst vs)) :
    RSt K F (upd S p (.lst vs)) H σ δ ∧ Stp S0 H0 (upd S p (.lst vs)) H σ δ0 δ := by
  obtain ⟨z1, z2⟩ := R0.frz h0
  have hex : Ex S (upd S p (.lst vs)) := Ex.new hS
  have nown : ¬ Own σ δ p := fun o => by
    obtain ⟨us, q, _⟩ := R0.own_in (s.own o)
    rw [h0] at q; cases q
  refine ⟨⟨fun b u e => ?_, R.base, R.dom0, fun t => ⟨(R.tb0 t).1, nt_upd (R.tb0 t).2 nt_lst⟩, R.s0.trans hex, fun b u e => ?_, R.iop, R.len, fun i x t h1 h2 => ?_, R.sep, R.pin⟩, ⟨s.s.trans hex, fun b u e => ?_, s.keep, s.dom, s.kind, fun t => ⟨(s.tb t).1, nt_upd (s.tb t).2 nt_lst⟩⟩⟩
  · by_cases hb : b = p
    · subst hb; rw [upd_same] at e; cases e; exact hp
    · rw [upd_ne hb] at e; exact R.sub b u e
  · rw [upd_ne (fun z => by rw [z, z1] at e; cases e)]; exact R.out b u e
  · have q := R.slot i x t h1 h2
    cases t with
    | no => trivial
    | sh d =>
      obtain ⟨v, e, d1⟩ := q
      exact ⟨v, e, dq_ext hex d1⟩
    | scr ns =>
      obtain ⟨a, e, d1⟩ := q
      exact ⟨a, e, Evl.ex_l hex d1⟩
    | ow xs =>
      obtain ⟨a, us, e, e1, e2, e3, e4⟩ := q
      refine ⟨a, us, e, ?_, e2, e3, ob_ext hex e4⟩
      rw [upd_ne (fun z => nown ⟨i, xs, h2, by rw [h1, e, z]⟩)]
      exact e1
  · rw [upd_ne (fun z => by rw [z, h0] at e; cases e)]; exact s.out b u e
omit [TabSet] in
def fList (fa : MA) : M := fun δ => match fa δ with
  | some (ds, δ') => some (.list ds, δ')
  | none => none
/-- a new list, as a value -/
theorem se_f {ff : DE → Option (List D × DE)} (hp : PE X e (SF X.K F ff)) : PE X e (SE X.K F (fList ff)) := by
  refine pe_of fun S δ d δ' σ H Q R hf q => ⟨_, hp, ?_⟩
  unfold fList at hf
  cases h1 : ff δ with
  | none => rw [h1] at hf; cases hf
  | some p =>
    obtain ⟨ds, δ1⟩ := p
    rw [h1] at hf
    cases hf
    refine ⟨S, δ, ds, _, R, h1, fun a vs S1 H1 s1 R1 n1 n2 e1 d1 => ?_⟩
    obtain ⟨R2, s2⟩ := share_fresh R s1 R1 n1 n2 e1
    exact q _ _ _ s2 R2 (.lst upd_same (dqa_ext (Ex.new n2) d1))
omit [TabSet] in
def lLst (fa : MA) : MA := fun δ => match fa δ with
  | some (ds, δ') => if ds.length ≤ 100000 then some (ds, δ') else none
  | none => none
theorem f_lst (ha : PA X es (SA X.K F fa)) : PE X (.List es pos) (SF X.K F (lLst fa)) := by
  refine pf_of fun S δ d δ' σ H Q R hf q => ⟨_, pe_lst ha, ?_⟩
  unfold lLst at hf
  cases h1 : fa δ with
  | none => rw [h1] at hf; cases hf
  | some p =>
    obtain ⟨ds, δ1⟩ := p
    rw [h1] at hf
    simp only at hf
    split at hf
    · rename_i hc
      cases hf
      refine ⟨S, δ, _, _, R, h1, fun vs S1 H1 s1 R1 d1 => ⟨sz_of (by rw [dqa_len d1]; exact hc), fun p hp => ?_⟩⟩
      obtain ⟨R2, s2, n2⟩ := lay_fresh (o := .lst vs) R1 hp
      refine q p vs S1 _ (s1.trans s2) R2 ?_ n2 upd_same d1
      cases hh : H p with
      | none => rfl
      | some u =>
        obtain ⟨u', q'⟩ := s1.dom p u hh
        rw [hp] at q'; cases q'
    · cases hf
end
end Pd

/-! Places, slices, built-in functions. -/
namespace Pd
open PySem PySem.Spec PyProof.Rows L2
open Evl (Ex)
variable [TabSet]
omit [TabSet] in
theorem dict_nt {S : Hp} {o : HO} {kvs : List (D × D)} (h : DictAt S o kvs) : ∀ ps, o ≠ .tbl ps := ob_nt (ob := .dct kvs) h
omit [TabSet] in
/-- as Dq, the list or dict itself perhaps its holder's own -/
def Dsh (S H : Hp) (v : V) : D → Prop
  | .list ds => ∃ a vs, v = .ref a ∧ H a = some (.lst vs) ∧ DqAll S vs ds
  | .dict kvs => ∃ a o, v = .ref a ∧ H a = some o ∧ DictAt S o kvs
  | d => Dq S v d
theorem Dsh.of {S H : Hp} {v : V} {d : D} (ex : Ex S H) (h : Dq S v d) : Dsh S H v d := by
  cases h with
  | lst e a => exact ⟨_, _, rfl, ex _ _ e, a⟩
  | tup e a => exact .tup e a
  | non => exact .non
  | bl b => exact .bl b
  | int i => exact .int i
  | str x => exact .str x
  | dcK e a b => exact ⟨_, _, rfl, ex _ _ e, .inl ⟨_, _, rfl, rfl, a, b⟩⟩
  | dcT e a b => exact ⟨_, _, rfl, ex _ _ e, .inr ⟨_, _, rfl, rfl, a, b⟩⟩
theorem Dsh.grow {S H S' H' : Hp} {v : V} {d : D} (g : Grow S H S' H') (h : Dsh S H v d) : Dsh S' H' v d := by
  cases d with
  | list ds =>
    obtain ⟨a, vs, e, e1, e2⟩ := h
    exact ⟨a, vs, e, g.h _ _ e1 nt_lst, dqa_ext g.s e2⟩
  | dict kvs =>
    obtain ⟨a, o, e, e1, e2⟩ := h
    exact ⟨a, o, e, g.h _ _ e1 (dict_nt e2), dict_ext g.s e2⟩
  | _ => exact dq_ext g.s (show Dq S v _ from h)
def SX (K : PySem.W.Frag) (F : Fr) (f : M) : TE := fun σ H Q => ∃ S δ d δ', RSt K F S H σ δ ∧ f δ = some (d, δ') ∧
  ∀ v S' H', Stp S H S' H' σ δ δ' → RSt K F S' H' σ δ' → Dsh S' H' v d → Q v H'
/-- what changes nothing -/
abbrev PF := DE → Option D
def SP (K : PySem.W.Frag) (F : Fr) (f : PF) : TE := fun σ H Q => ∃ S δ d, RSt K F S H σ δ ∧ f δ = some d ∧ ∀ v S' H', Grow S H S' H' → Dq S' v d → Q v H'
section
variable {X : Cx} {F : Fr} {e a b c : Expr} {pos p : Pos} {f g h : M} {tf tg : MT} {pf pg : PF}
theorem px_of (h : ∀ S δ d δ' σ H Q, RSt X.K F S H σ δ → f δ = some (d, δ') → (∀ v S' H', Stp S H S' H' σ δ δ' → RSt X.K F S' H' σ δ' → Dsh S' H' v d → Q v H') → ∃ t, PE X e t ∧ t σ H Q) : PE X e (SX X.K F f) :=
  ⟨fun pins s σ H Q I hw => by
    obtain ⟨S, δ, d, δ', R, hf, q⟩ := hw
    obtain ⟨t, ht, hq⟩ := h S δ d δ' σ H Q R hf q
    exact ht.run pins s σ H Q I hq⟩
theorem pp_of (h : ∀ S δ d σ H Q, RSt X.K F S H σ δ → pf δ = some d → (∀ v S' H', Grow S H S' H' → Dq S' v d → Q v H') → ∃ t, PE X e t ∧ t σ H Q) : PE X e (SP X.K F pf) :=
  ⟨fun pins s σ H Q I hw => by
    obtain ⟨S, δ, d, R, hf, q⟩ := hw
    obtain ⟨t, ht, hq⟩ := h S δ d σ H Q R hf q
    exact ht.run pins s σ H Q I hq⟩
theorem x_of (ha : PE X e (SE X.K F f)) : PE X e (SX X.K F f) := px_of fun S δ d δ' σ H Q R hf q => ⟨_, ha, S, δ, d, δ', R, hf, fun v S1 H1 s1 R1 d1 => q v S1 H1 s1 R1 (Dsh.of R1.sub d1)⟩
theorem x_f {ff : MA} (hp : PE X e (SF X.K F ff)) : PE X e (SX X.K F (fList ff)) := by
  refine px_of fun S δ d δ' σ H Q R hf q => ⟨_, hp, ?_⟩
  unfold fList at hf
  cases h1 : ff δ with
  | none => rw [h1] at hf; cases hf
  | some p =>
    obtain ⟨ds, δ1⟩ := p
    rw [h1] at hf
    cases hf
    exact ⟨S, δ, ds, _, R, h1, fun a vs S1 H1 s1 R1 n1 n2 e1 d1 => q _ S1 H1 s1 R1 ⟨a, vs, rfl, e1, d1⟩⟩
omit [TabSet] in
def fPeek (i : Nat) : M := fun δ => match δ[i]? with
  | some (.ow (.lst xs)) => some (.list xs, δ)
  | some (.ow (.dct kvs)) => some (.dict kvs, δ)
  | some (.sh d) => some (d, δ)
  | _ => none
theorem x_peek {i : Nat} {x : Str} (hN : X.N[i]? = some x := by rfl) (hv : Vis X.env.scope x := by first | exact Or.inl rfl | exact Or.inr (Or.inl rfl) | exact Or.inr (Or.inr rfl)) (hd : (x == ("__debug__" : Str)) = false := by decide)
    (hcd : (x == ("__classdict__" : Str)) = false := by decide) : PE X (.Name x pos) (SX X.K F (fPeek i)) := by
  refine px_of fun S δ d δ' σ H Q R hf q => ⟨tVar i, pe_var hN hv hd hcd, ?_⟩
  unfold fPeek at hf
  cases hi : δ[i]? with
  | none => rw [hi] at hf; cases hf
  | some s =>
    have hl : i < σ.length := by rw [R.len]; exact (List.getElem?_eq_some_iff.mp hi).1
    have hs := R.slot i _ _ (List.getElem?_eq_getElem hl) hi
    rw [hi] at hf
    cases s with
    | sh d0 =>
      cases hf
      obtain ⟨v, ev, dv⟩ := hs
      exact ⟨v, by rw [List.getElem?_eq_getElem hl, ev], q v S H Stp.refl R (Dsh.of R.sub dv)⟩
    | ow ob =>
      obtain ⟨a, o, ev, e1, e2, e3, e4⟩ := hs
      cases ob with
      | lst xs =>
        cases hf
        obtain ⟨vs, rfl, e4⟩ := e4
        exact ⟨.ref a, by rw [List.getElem?_eq_getElem hl, ev], q _ S H Stp.refl R ⟨a, vs, rfl, e3, e4⟩⟩
      | dct kvs =>
        cases hf
        exact ⟨.ref a, by rw [List.getElem?_eq_getElem hl, ev], q _ S H Stp.refl R ⟨a, o, rfl, e3, e4⟩⟩
    | _ => cases hf
theorem p_of_m (hm : ∀ δ, f δ = (pf δ).map fun d => (d, δ)) (ha : PE X e (SP X.K F pf)) : PE X e (SE X.K F f) := by
  refine pe_of fun S δ d δ' σ H Q R hf q => ⟨_, ha, ?_⟩
  rw [hm] at hf
  cases h1 : pf δ with
  | none => rw [h1] at hf; cases hf
  | some z =>
    rw [h1] at hf
    cases hf
    exact ⟨S, _, _, R, h1, fun v S1 H1 g1 d1 => q v S1 H1 (Stp.grow g1) (R.grow g1) d1⟩
omit [TabSet] in
def pVar (i : Nat) : PF := fun δ => match δ[i]? with
  | some (.sh d) => some d
  | _ => none
omit [TabSet] in
def pC (d : D) : PF := fun _ => some d
omit [TabSet] in
def pOp (op : D → D → Option D) (pf pg : PF) : PF := fun δ => match pf δ with
  | some x => match pg δ with
    | some y => op x y
    | none => none
  | none => none
theorem p_var {i : Nat} {x : Str} (hN : X.N[i]? = some x := by rfl) (hv : Vis X.env.scope x := by first | exact Or.inl rfl | exact Or.inr (Or.inl rfl) | exact Or.inr (Or.inr rfl)) (hd : (x == ("__debug__" : Str)) = false := by decide)
    (hcd : (x == ("__classdict__" : Str)) = false := by decide) : PE X (.Name x pos) (SP X.K F (pVar i)) := by
  refine pp_of fun S δ d σ H Q R hf q => ⟨tVar i, pe_var hN hv hd hcd, ?_⟩
  unfold pVar at hf
  cases hi : δ[i]? with
  | none => rw [hi] at hf; cases hf
  | some s =>
    rw [hi] at hf
    cases s with
    | sh d0 =>
      cases hf
      have hl : i < σ.length := by rw [R.len]; exact (List.getElem?_eq_some_iff.mp hi).1
      obtain ⟨v, ev, dv⟩ := R.slot i _ _ (List.getElem?_eq_getElem hl) hi
      exact ⟨v, by rw [List.getElem?_eq_getElem hl, ev], q v S H (Grow.refl R.sub) dv⟩
    | _ => cases hf
theorem p_int {i j} : PE X (.Constant (.int i) j pos) (SP X.K F (pC (.int i))) := pp_of fun S δ d σ H Q R hf q => ⟨_, pe_int, by
  cases hf
  exact q _ S H (Grow.refl R.sub) (.int i)⟩
theorem p_add (ha : PE X a (SP X.K F pf)) (hb : PE X b (SP X.K F pg)) : PE X (.BinOp a .Add b pos) (SP X.K F (pOp (fun x y => match x, y with | .int i, .int j => some (.int (i + j)) | _, _ => none) pf pg)) := by
  refine pp_of fun S δ d σ H Q R hf q => ⟨_, pe_op op_add ha hb, ?_⟩
  unfold pOp at hf
  cases h1 : pf δ with
  | none => rw [h1] at hf; cases hf
  | some x =>
    rw [h1] at hf
    cases h2 : pg δ with
    | none => rw [h2] at hf; cases hf
    | some y =>
      rw [h2] at hf
      simp only at hf
      split at hf
      · cases hf
        exact ⟨S, δ, _, R, h1, fun v S1 H1 g1 d1 => ⟨S1, δ, _, R.grow g1, h2, fun w S2 H2 g2 d2 => ⟨_, _, dq_int d1, dq_int d2, q _ S2 H2 (g1.trans g2) (.int _)⟩⟩⟩
      · cases hf
theorem p_sub (ha : PE X a (SP X.K F pf)) (hb : PE X b (SP X.K F pg)) : PE X (.BinOp a .Sub b pos) (SP X.K F (pOp opSub pf pg)) := by
  refine pp_of fun S δ d σ H Q R hf q => ⟨_, pe_op op_sub ha hb, ?_⟩
  unfold pOp at hf
  cases h1 : pf δ with
  | none => rw [h1] at hf; cases hf
  | some x =>
    rw [h1] at hf
    cases h2 : pg δ with
    | none => rw [h2] at hf; cases hf
    | some y =>
      rw [h2] at hf
      cases x <;> cases y <;> simp only [opSub] at hf <;> cases hf
      exact ⟨S, δ, _, R, h1, fun v S1 H1 g1 d1 => ⟨S1, δ, _, R.grow g1, h2, fun w S2 H2 g2 d2 => ⟨_, _, dq_int d1, dq_int d2, q _ S2 H2 (g1.trans g2) (.int _)⟩⟩⟩
omit [TabSet] in
def pNeg (pf : PF) : PF := fun δ => match pf δ with
  | some (.int i) => some (.int (-i))
  | _ => none
theorem p_neg (ha : PE X a (SP X.K F pf)) : PE X (.UnaryOp .USub a pos) (SP X.K F (pNeg pf)) := by
  refine pp_of fun S δ d σ H Q R hf q => ⟨_, pe_un un_neg ha, ?_⟩
  unfold pNeg at hf
  split at hf
  · rename_i i h1
    cases hf
    exact ⟨S, δ, _, R, h1, fun v S1 H1 g1 d1 => ⟨i, dq_int d1, q _ S1 H1 g1 (.int _)⟩⟩
  · cases hf

/-! ### places -/
omit [TabSet] in
def ixD : D → D → Option D
  | .list ds, .int i => atI ds i
  | .tuple ds, .int i => atI ds i
  | .str z, .int i => if z.length ≤ 100000 then (atI z.cps.toList i).map fun c => .str ⟨#[c]⟩ else none
  | _, _ => none
theorem dqa_atI {S : Hp} {vs : List V} {ds : List D} {i : Int} {d : D} (h : DqAll S vs ds) (e : atI ds i = some d) : ∃ v, atI vs i = some v ∧ Dq S v d := by
  unfold atI at e ⊢
  rw [dqa_len h]
  cases hj : ixN ds.length i with
  | none => rw [hj] at e; cases e
  | some j =>
    rw [hj] at e
    exact dqa_get' h e
theorem e_ix (ha : PE X a (SE X.K F f)) (hb : PE X b (SE X.K F g)) (hs : PlainIx b := by exact fun _ _ => rfl) : PE X (.Subscript a b pos) (SE X.K F (fOp ixD f g)) := by
  refine se_op fun d e' z hz => ?_
  cases d <;> cases e' <;> simp only [ixD] at hz <;> first | cases hz | skip
  · split at hz
    · rename_i hc
      cases hi : atI _ _ with
      | none => rw [hi] at hz; cases hz
      | some c =>
        rw [hi] at hz
        cases hz
        exact ⟨_, pe_ix ix_str ha hb hs, fun S H x y Q ex h1 h2 q => ⟨_, _, c, dq_str h1, dq_int h2, sz_of hc, hi, q _ S H (Grow.refl ex) (.str _)⟩⟩
    · cases hz
  · refine ⟨_, pe_ix ix_list ha hb hs, fun S H x y Q ex h1 h2 q => ?_⟩
    obtain ⟨p1, v1, rfl, e1, d1⟩ := dq_list h1
    obtain ⟨v, hv, dv⟩ := dqa_atI d1 hz
    exact ⟨p1, v1, _, v, rfl, dq_int h2, SqL.of (ex _ _ e1), hv, q v S H (Grow.refl ex) dv⟩
  · refine ⟨_, pe_ix ix_tup ha hb hs, fun S H x y Q ex h1 h2 q => ?_⟩
    obtain ⟨p1, v1, rfl, e1, d1⟩ := dq_tup h1
    obtain ⟨v, hv, dv⟩ := dqa_atI d1 hz
    exact ⟨p1, v1, _, v, rfl, dq_int h2, SqT.of (ex _ _ e1), hv, q v S H (Grow.refl ex) dv⟩
omit [TabSet] in
/-- a place of what is perhaps one's own -/
def fIxX (f : M) (pg : PF) : M := fun δ => match f δ with
  | some (d, δ1) => match pg δ1 with
    | some y => (ixD d y).map fun z => (z, δ1)
    | none => none
  | none => none
theorem e_ixX (ha : PE X a (SX X.K F f)) (hb : PE X b (SP X.K F pg)) (hs : PlainIx b := by exact fun _ _ => rfl) : PE X (.Subscript a b pos) (SE X.K F (fIxX f pg)) := by
  refine pe_of fun S δ d δ' σ H Q R hf q => ?_
  unfold fIxX at hf
  cases h1 : f δ with
  | none => rw [h1] at hf; cases hf
  | some p =>
    obtain ⟨x, δ1⟩ := p
    rw [h1] at hf
    simp only at hf
    cases h2 : pg δ1 with
    | none => rw [h2] at hf; cases hf
    | some y =>
      rw [h2] at hf
      simp only at hf
      cases h3 : ixD x y with
      | none => rw [h3] at hf; cases hf
      | some z =>
        rw [h3] at hf
        cases hf
        cases x <;> cases y <;> simp only [ixD] at h3 <;> first | cases h3 | skip
        · split at h3
          · rename_i hc
            cases hi : atI _ _ with
            | none => rw [hi] at h3; cases h3
            | some c =>
              rw [hi] at h3
              cases h3
              exact ⟨_, pe_ix ix_str ha hb hs, S, δ, _, _, R, h1, fun v S1 H1 s1 R1 d1 => ⟨S1, _, _, R1, h2, fun w S2 H2 g2 d2 =>
                ⟨_, _, c, dq_str d1, dq_int d2, sz_of hc, hi, q _ S2 H2 (s1.trans (Stp.grow g2)) (R1.grow g2) (.str _)⟩⟩⟩
          · cases h3
        · refine ⟨_, pe_ix ix_list ha hb hs, S, δ, _, _, R, h1, fun v S1 H1 s1 R1 d1 => ⟨S1, _, _, R1, h2, fun w S2 H2 g2 d2 => ?_⟩⟩
          obtain ⟨p1, v1, rfl, e1, d1⟩ := d1
          obtain ⟨v, hv, dv⟩ := dqa_atI (dqa_ext g2.s d1) h3
          exact ⟨p1, v1, _, v, rfl, dq_int d2, SqL.of (g2.h _ _ e1 nt_lst), hv, q v S2 H2 (s1.trans (Stp.grow g2)) (R1.grow g2) dv⟩
        · refine ⟨_, pe_ix ix_tup ha hb hs, S, δ, _, _, R, h1, fun v S1 H1 s1 R1 d1 => ⟨S1, _, _, R1, h2, fun w S2 H2 g2 d2 => ?_⟩⟩
          obtain ⟨p1, v1, rfl, e1, d1⟩ := dq_tup d1
          obtain ⟨v, hv, dv⟩ := dqa_atI (dqa_ext g2.s d1) h3
          exact ⟨p1, v1, _, v, rfl, dq_int d2, SqT.of ((R1.grow g2).sub _ _ (g2.s _ _ e1)), hv, q v S2 H2 (s1.trans (Stp.grow g2)) (R1.grow g2) dv⟩

/-! ### slices -/
omit [TabSet] in
def cutD (ds : List D) (lo hi : Option Int) : List D := (ds.drop (HT.sIx ds.length 0 lo)).take (HT.sIx ds.length ds.length hi - HT.sIx ds.length 0 lo)
theorem dqa_cut {S : Hp} {vs : List V} {ds : List D} (h : DqAll S vs ds) (lo hi : Option Int) : DqAll S (cutV vs lo hi) (cutD ds lo hi) := by
  unfold cutV cutD
  rw [dqa_len h]
  exact dqa_take _ (dqa_drop _ h)
abbrev PO' := DE → Option (Option Int)
def SO (K : PySem.W.Frag) (F : Fr) (f : PO') : TO := fun σ H Q => ∃ S δ d, RSt K F S H σ δ ∧ f δ = some d ∧ ∀ S' H', Grow S H S' H' → Q d H'
omit [TabSet] in
def oNo : PO' := fun _ => some none
omit [TabSet] in
def oInt (pf : PF) : PO' := fun δ => match pf δ with
  | some (.int i) => some (some i)
  | _ => none
theorem po_of' {eo : Option Expr} {t t' : TO} (h : PO X eo t) (w : ∀ σ H Q, t' σ H Q → t σ H Q) : PO X eo t' := ⟨fun pins s σ H Q I hw => h.run pins s σ H Q I (w σ H Q hw)⟩
theorem o_no : PO X none (SO X.K F oNo) := po_of' po_none fun σ H Q hw => by
  obtain ⟨S, δ, d, R, hf, q⟩ := hw
  cases hf
  exact q S H (Grow.refl R.sub)
theorem o_int (ha : PE X e (SP X.K F pf)) : PO X (some e) (SO X.K F (oInt pf)) := po_of' (po_some ha) fun σ H Q hw => by
  obtain ⟨S, δ, d, R, hf, q⟩ := hw
  unfold oInt at hf
  split at hf
  · rename_i i h1
    cases hf
    exact ⟨S, δ, _, R, h1, fun v S1 H1 g1 d1 => ⟨i, dq_int d1, q S1 H1 g1⟩⟩
  · cases hf
omit [TabSet] in
def lSl (f : M) (pl ph : PO') : MA := fun δ => match f δ with
  | some (.list ds, δ1) => match pl δ1, ph δ1 with
    | some lo, some hi => some (cutD ds lo hi, δ1)
    | _, _ => none
  | _ => none
variable {lo hi : Option Expr} {pl ph : PO'} {p2 : Pos}
/-- xs[lo:hi], a list -/
theorem f_sl (ha : PE X a (SX X.K F f)) (hl : PO X lo (SO X.K F pl)) (hh : PO X hi (SO X.K F ph)) : PE X (.Subscript a (.Slice lo hi none p2) pos) (SF X.K F (lSl f pl ph)) := by
  refine pf_of fun S δ d δ' σ H Q R hf q => ⟨_, pe_slice sl_list ha hl hh, ?_⟩
  unfold lSl at hf
  split at hf
  · rename_i ds δ1 h1
    split at hf
    · rename_i l u h2 h3
      cases hf
      refine ⟨S, δ, _, _, R, h1, fun v S1 H1 s1 R1 d1 => ⟨S1, _, _, R1, h2, fun S2 H2 g2 => ⟨S2, _, _, R1.grow g2, h3, fun S3 H3 g3 => ?_⟩⟩⟩
      obtain ⟨p1, v1, rfl, e1, d1⟩ := d1
      have g := g2.trans g3
      have R3 := R1.grow g
      refine ⟨p1, v1, rfl, SqL.of (g.h _ _ e1 nt_lst), fun p hp => ?_⟩
      obtain ⟨R4, s4, n4⟩ := lay_fresh (o := .lst (cutV v1 l u)) R3 hp
      have s3 := (s1.trans (Stp.grow g)).trans s4
      refine q p _ S3 _ s3 R4 ?_ n4 upd_same (dqa_cut (dqa_ext g.s d1) l u)
      cases hz : H p with
      | none => rfl
      | some o =>
        obtain ⟨o', q'⟩ := (s1.trans (Stp.grow g)).dom p o hz
        rw [hp] at q'; cases q'
    · cases hf
  · cases hf
omit [TabSet] in
def fSlT (f : M) (pl ph : PO') : M := fun δ => match f δ with
  | some (.tuple ds, δ1) => match pl δ1, ph δ1 with
    | some lo, some hi => some (.tuple (cutD ds lo hi), δ1)
    | _, _ => none
  | _ => none
theorem cut_whole {α : Type} (ds : List α) {l u : Nat} (h : l = 0 ∧ u = ds.length) : (ds.drop l).take (u - l) = ds := by
  obtain ⟨rfl, rfl⟩ := h
  rw [List.drop_zero, Nat.sub_zero, List.take_length]
/-- t[lo:hi], a tuple -/
theorem e_slT (ha : PE X a (SE X.K F f)) (hl : PO X lo (SO X.K F pl)) (hh : PO X hi (SO X.K F ph)) : PE X (.Subscript a (.Slice lo hi none p2) pos) (SE X.K F (fSlT f pl ph)) := by
  refine pe_of fun S δ d δ' σ H Q R hf q => ⟨_, pe_slice sl_tupA ha hl hh, ?_⟩
  unfold fSlT at hf
  split at hf
  · rename_i ds δ1 h1
    split at hf
    · rename_i l u h2 h3
      cases hf
      refine ⟨S, δ, _, _, R, h1, fun v S1 H1 s1 R1 d1 => ⟨S1, _, _, R1, h2, fun S2 H2 g2 => ⟨S2, _, _, R1.grow g2, h3, fun S3 H3 g3 => ?_⟩⟩⟩
      obtain ⟨p1, v1, rfl, e1, d1⟩ := dq_tup d1
      have g := g2.trans g3
      have R3 := R1.grow g
      have e3 := g.s _ _ e1
      have d3 := dqa_ext g.s d1
      refine ⟨p1, v1, rfl, SqT.of (R3.sub _ _ e3), fun hw => ?_, fun _ p hp => ?_⟩
      · have hc : cutD ds l u = ds := cut_whole ds (by rw [← dqa_len d1]; exact hw)
        rw [hc] at q
        exact q _ S3 H3 (s1.trans (Stp.grow g)) R3 (.tup e3 d3)
      · obtain ⟨g4, g5⟩ := grow_tup R3.sub hp (dqa_cut d3 l u)
        exact q _ _ _ ((s1.trans (Stp.grow g)).trans (Stp.grow g4)) (R3.grow g4) g5
    · cases hf
  · cases hf

/-! ### built-in functions of one thing -/
omit [TabSet] in
def f1 (u : D → Option D) (f : M) : M := fun δ => match f δ with
  | some (d, δ') => (u d).map fun z => (z, δ')
  | none => none
variable {x : Str}
theorem f1_of {u : D → Option D} {δ δ' : DE} {z : D} (h : f1 u f δ = some (z, δ')) : ∃ d, f δ = some (d, δ') ∧ u d = some z := by
  unfold f1 at h
  cases h1 : f δ with
  | none => rw [h1] at h; cases h
  | some p =>
    obtain ⟨d, δ1⟩ := p
    rw [h1] at h
    simp only at h
    cases h2 : u d with
    | none => rw [h2] at h; cases h
    | some z' =>
      rw [h2] at h
      cases h
      exact ⟨d, rfl, h2⟩
theorem e_c1 {u : D → Option D} {bi : Value} (hp : ∀ r, CallR X bi r → PE X e (tCB r (tCons (SX X.K F f) tNil)))
    (h : ∀ d z, u d = some z → ∃ r, CallR X bi r ∧ ∀ S H v Q, Ex S H → Dsh S H v d → (∀ w S' H', Grow S H S' H' → Dq S' w z → Q w H') → r [v] H Q) : PE X e (SE X.K F (f1 u f)) := by
  refine pe_of fun S δ d δ' σ H Q R hf q => ?_
  obtain ⟨d0, h1, h2⟩ := f1_of hf
  obtain ⟨r, k1, k2⟩ := h d0 d h2
  exact ⟨_, hp r k1, S, δ, d0, δ', R, h1, fun v S1 H1 s1 R1 d1 => k2 S1 H1 v Q R1.sub d1 fun w S2 H2 g2 d2 => q w S2 H2 (s1.trans (Stp.grow g2)) (R1.grow g2) d2⟩
omit [TabSet] in
def uLen : D → Option D
  | .list ds => some (.int ds.length)
  | .tuple ds => some (.int ds.length)
  | .str z => if z.length ≤ 100000 then some (.int z.length) else none
  | _ => none
theorem e_len {pp : Pos} (hg : Gl X "len" := by rfl) (hm : X.mg "len" = none) (ha : PE X a (SX X.K F f)) (he : starEach (a :: []) X.env = (false, eval a X.env) :: starEach [] X.env := by rfl) (hpl : (backTo pos (starEach [] X.env)).any (·.1) = false := by rfl) :
    PE X (.Call (.Name "len" pp) [a] [] pos) (SE X.K F (f1 uLen f)) := by
  refine e_c1 (bi := .builtin "len") (fun r hr => pe_callB hr hg hm PySem.boot_len (pa_cons ha pa_nil he) (he := he) (hpl := hpl)) fun d z hz => ?_
  cases d <;> simp only [uLen] at hz <;> first | cases hz | skip
  · split at hz
    · rename_i hc
      cases hz
      refine ⟨_, call_len_str, fun S H v Q ex d1 q => ⟨_, ?_, sz_of hc, q _ S H (Grow.refl ex) (.int _)⟩⟩
      rw [dq_str d1]
    · cases hz
  · refine ⟨_, call_len_seq, fun S H v Q ex d1 q => ?_⟩
    obtain ⟨p1, v1, rfl, e1, d1⟩ := d1
    refine ⟨p1, v1, rfl, .inl (SqL.of e1), ?_⟩
    rw [dqa_len d1]
    exact q _ S H (Grow.refl ex) (.int _)
  · refine ⟨_, call_len_seq, fun S H v Q ex d1 q => ?_⟩
    obtain ⟨p1, v1, rfl, e1, d1⟩ := dq_tup d1
    refine ⟨p1, v1, rfl, .inr (SqT.of (ex _ _ e1)), ?_⟩
    rw [dqa_len d1]
    exact q _ S H (Grow.refl ex) (.int _)
omit [TabSet] in
def uTup : D → Option D
  | .list ds => some (.tuple ds)
  | .tuple ds => some (.tuple ds)
  | _ => none
theorem e_tupOf {pp : Pos} (hg : Gl X "tuple" := by rfl) (hm : X.mg "tuple" = none) (ha : PE X a (SX X.K F f)) (he : starEach (a :: []) X.env = (false, eval a X.env) :: starEach [] X.env := by rfl) (hpl : (backTo pos (starEach [] X.env)).any (·.1) = false := by rfl) :
    PE X (.Call (.Name "tuple" pp) [a] [] pos) (SE X.K F (f1 uTup f)) := by
  refine e_c1 (bi := .type "tuple") (fun r hr => pe_callTy hr hg hm boot_tuple (pa_cons ha pa_nil he) (he := he) (hpl := hpl)) fun d z hz => ?_
  cases d <;> simp only [uTup] at hz <;> cases hz
  · refine ⟨_, call_tuple_of, fun S H v Q ex d1 q => ?_⟩
    obtain ⟨p1, v1, rfl, e1, d1⟩ := d1
    refine ⟨p1, v1, rfl, .inl ⟨SqL.of e1, fun l hl => ?_⟩⟩
    obtain ⟨g1, g2⟩ := grow_tup ex hl d1
    exact q _ _ _ g1 g2
  · refine ⟨_, call_tuple_of, fun S H v Q ex d1 q => ?_⟩
    obtain ⟨p1, v1, rfl, e1, d1⟩ := dq_tup d1
    exact ⟨p1, v1, rfl, .inr ⟨SqT.of (ex _ _ e1), q _ S H (Grow.refl ex) (.tup e1 d1)⟩⟩
omit [TabSet] in
/-- a new list by a call -/
def l1 (u : D → Option (List D)) (f : M) : MA := fun δ => match f δ with
  | some (d, δ') => (u d).map fun z => (z, δ')
  | none => none
theorem f_c1 {u : D → Option (List D)} {bi : Value} (hp : ∀ r, CallR X bi r → PE X e (tCB r (tCons (SX X.K F f) tNil)))
    (h : ∀ d zs, u d = some zs → ∃ r, CallR X bi r ∧ ∀ S H v Q, Ex S H → Dsh S H v d → (∀ p vs, H p = none → DqAll S vs zs → Q (.ref p) (upd H p (.lst vs))) → r [v] H Q) : PE X e (SF X.K F (l1 u f)) := by
  refine pf_of fun S δ d δ' σ H Q R hf q => ?_
  unfold l1 at hf
  cases h1 : f δ with
  | none => rw [h1] at hf; cases hf
  | some p =>
    obtain ⟨d0, δ1⟩ := p
    rw [h1] at hf
    simp only at hf
    cases h2 : u d0 with
    | none => rw [h2] at hf; cases hf
    | some zs =>
      rw [h2] at hf
      cases hf
      obtain ⟨r, k1, k2⟩ := h d0 _ h2
      refine ⟨_, hp r k1, S, δ, d0, _, R, h1, fun v S1 H1 s1 R1 d1 => k2 S1 H1 v Q R1.sub d1 fun p vs hp dv => ?_⟩
      obtain ⟨R2, s2, n2⟩ := lay_fresh (o := .lst vs) R1 hp
      refine q p vs S1 _ (s1.trans s2) R2 ?_ n2 upd_same dv
      cases hz : H p with
      | none => rfl
      | some o =>
        obtain ⟨o', q'⟩ := s1.dom p o hz
        rw [hp] at q'; cases q'
omit [TabSet] in
def uList : D → Option (List D)
  | .list ds => some ds
  | .tuple ds => some ds
  | _ => none
theorem f_listOf {pp : Pos} (hg : Gl X "list" := by rfl) (hm : X.mg "list" = none) (ha : PE X a (SX X.K F f)) (he : starEach (a :: []) X.env = (false, eval a X.env) :: starEach [] X.env := by rfl) (hpl : (backTo pos (starEach [] X.env)).any (·.1) = false := by rfl) :
    PE X (.Call (.Name "list" pp) [a] [] pos) (SF X.K F (l1 uList f)) := by
  refine f_c1 (bi := .type "list") (fun r hr => pe_callTy hr hg hm boot_list (pa_cons ha pa_nil he) (he := he) (hpl := hpl)) fun d z hz => ?_
  cases d <;> simp only [uList] at hz <;> cases hz
  · refine ⟨_, call_list_of, fun S H v Q ex d1 q => ?_⟩
    obtain ⟨p1, v1, rfl, e1, d1⟩ := d1
    exact ⟨p1, v1, rfl, .inl (SqL.of e1), fun l hl => q l v1 hl d1⟩
  · refine ⟨_, call_list_of, fun S H v Q ex d1 q => ?_⟩
    obtain ⟨p1, v1, rfl, e1, d1⟩ := dq_tup d1
    exact ⟨p1, v1, rfl, .inr (SqT.of (ex _ _ e1)), fun l hl => q l v1 hl d1⟩
omit [TabSet] in
/-- lists of boolsD, of intsD -/
def boolsD : List D → Option (List Bool)
  | [] => some []
  | .bool b :: r => (boolsD r).map (b :: ·)
  | _ :: _ => none
omit [TabSet] in
def intsD : List D → Option (List Int)
  | [] => some []
  | .int b :: r => (intsD r).map (b :: ·)
  | _ :: _ => none
theorem dqa_bools {S : Hp} : ∀ {vs : List V} {ds : List D} {bs : List Bool}, DqAll S vs ds → boolsD ds = some bs → vs = bs.map V.bl
  | _, _, _, .nil, e => by cases e; rfl
  | v :: vs, d :: ds, bs, .cons h t, e => by
    cases d <;> simp only [boolsD] at e <;> first | cases e | skip
    cases h2 : boolsD ds with
    | none => rw [h2] at e; cases e
    | some r =>
      rw [h2] at e
      cases e
      rw [dq_bool h, dqa_bools t h2]
      rfl
theorem dqa_ints {S : Hp} : ∀ {vs : List V} {ds : List D} {bs : List Int}, DqAll S vs ds → intsD ds = some bs → vs = bs.map V.int
  | _, _, _, .nil, e => by cases e; rfl
  | v :: vs, d :: ds, bs, .cons h t, e => by
    cases d <;> simp only [intsD] at e <;> first | cases e | skip
    cases h2 : intsD ds with
    | none => rw [h2] at e; cases e
    | some r =>
      rw [h2] at e
      cases e
      rw [dq_int h, dqa_ints t h2]
      rfl
theorem dqa_of_ints (S : Hp) : ∀ ns : List Int, DqAll S (ns.map V.int) (ns.map PyData.int)
  | [] => .nil
  | n :: r => .cons (.int n) (dqa_of_ints S r)
omit [TabSet] in
def uAll : D → Option D
  | .list ds => (boolsD ds).map fun bs => .bool (bs.all fun k => k)
  | _ => none
omit [TabSet] in
def uAny : D → Option D
  | .list ds => (boolsD ds).map fun bs => .bool (bs.any fun k => k)
  | _ => none
omit [TabSet] in
def uSum : D → Option D
  | .list ds => (intsD ds).map fun bs => .int bs.sum
  | _ => none
variable (hc : X.calm = true)
include hc
theorem e_all {pp : Pos} (hg : Gl X "all" := by rfl) (hm : X.mg "all" = none) (ha : PE X a (SX X.K F f)) (he : starEach (a :: []) X.env = (false, eval a X.env) :: starEach [] X.env := by rfl) (hpl : (backTo pos (starEach [] X.env)).any (·.1) = false := by rfl) :
    PE X (.Call (.Name "all" pp) [a] [] pos) (SE X.K F (f1 uAll f)) := by
  refine e_c1 (bi := .builtin "all") (fun r hr => pe_callB hr hg hm (by decide +kernel) (pa_cons ha pa_nil he) (he := he) (hpl := hpl)) fun d z hz => ?_
  cases d <;> simp only [uAll] at hz <;> first | cases hz | skip
  rename_i ds
  cases hb : boolsD ds with
  | none => rw [hb] at hz; cases hz
  | some bs =>
    rw [hb] at hz
    cases hz
    refine ⟨_, cr_all hc, fun S H v Q ex d1 q => ?_⟩
    obtain ⟨p1, v1, rfl, e1, d1⟩ := d1
    exact ⟨p1, bs, rfl, by rw [← dqa_bools d1 hb]; exact SqL.of e1, q _ S H (Grow.refl ex) (.bl _)⟩
theorem e_any {pp : Pos} (hg : Gl X "any" := by rfl) (hm : X.mg "any" = none) (ha : PE X a (SX X.K F f)) (he : starEach (a :: []) X.env = (false, eval a X.env) :: starEach [] X.env := by rfl) (hpl : (backTo pos (starEach [] X.env)).any (·.1) = false := by rfl) :
    PE X (.Call (.Name "any" pp) [a] [] pos) (SE X.K F (f1 uAny f)) := by
  refine e_c1 (bi := .builtin "any") (fun r hr => pe_callB hr hg hm (by decide +kernel) (pa_cons ha pa_nil he) (he := he) (hpl := hpl)) fun d z hz => ?_
  cases d <;> simp only [uAny] at hz <;> first | cases hz | skip
  rename_i ds
  cases hb : boolsD ds with
  | none => rw [hb] at hz; cases hz
  | some bs =>
    rw [hb] at hz
    cases hz
    refine ⟨_, cr_any hc, fun S H v Q ex d1 q => ?_⟩
    obtain ⟨p1, v1, rfl, e1, d1⟩ := d1
    exact ⟨p1, bs, rfl, by rw [← dqa_bools d1 hb]; exact SqL.of e1, q _ S H (Grow.refl ex) (.bl _)⟩
theorem e_sum {pp : Pos} (hg : Gl X "sum" := by rfl) (hm : X.mg "sum" = none) (ha : PE X a (SX X.K F f)) (he : starEach (a :: []) X.env = (false, eval a X.env) :: starEach [] X.env := by rfl) (hpl : (backTo pos (starEach [] X.env)).any (·.1) = false := by rfl) :
    PE X (.Call (.Name "sum" pp) [a] [] pos) (SE X.K F (f1 uSum f)) := by
  refine e_c1 (bi := .builtin "sum") (fun r hr => pe_callB hr hg hm (by decide +kernel) (pa_cons ha pa_nil he) (he := he) (hpl := hpl)) fun d z hz => ?_
  cases d <;> simp only [uSum] at hz <;> first | cases hz | skip
  rename_i ds
  cases hb : intsD ds with
  | none => rw [hb] at hz; cases hz
  | some bs =>
    rw [hb] at hz
    cases hz
    refine ⟨_, cr_sum hc, fun S H v Q ex d1 q => ?_⟩
    obtain ⟨p1, v1, rfl, e1, d1⟩ := d1
    exact ⟨p1, bs, rfl, by rw [← dqa_ints d1 hb]; exact SqL.of e1, q _ S H (Grow.refl ex) (.int _)⟩
omit hc
omit [TabSet] in
def uAbs : D → Option D
  | .int i => some (.int (if i < 0 then -i else i))
  | _ => none
theorem e_abs {pp : Pos} (hg : Gl X "abs" := by rfl) (hm : X.mg "abs" = none) (ha : PE X a (SX X.K F f)) (he : starEach (a :: []) X.env = (false, eval a X.env) :: starEach [] X.env := by rfl) (hpl : (backTo pos (starEach [] X.env)).any (·.1) = false := by rfl) :
    PE X (.Call (.Name "abs" pp) [a] [] pos) (SE X.K F (f1 uAbs f)) := by
  refine e_c1 (bi := .builtin "abs") (fun r hr => pe_callB hr hg hm (by decide +kernel) (pa_cons ha pa_nil he) (he := he) (hpl := hpl)) fun d z hz => ?_
  cases d <;> simp only [uAbs] at hz <;> cases hz
  exact ⟨_, call_abs, fun S H v Q ex d1 q => ⟨_, by rw [dq_int d1], q _ S H (Grow.refl ex) (.int _)⟩⟩
omit [TabSet] in
def uInt : D → Option D
  | .int i => some (.int i)
  | .bool b => some (.int (if b then 1 else 0))
  | _ => none
theorem e_intOf {pp : Pos} (hg : Gl X "int" := by rfl) (hm : X.mg "int" = none) (ha : PE X a (SX X.K F f)) (he : starEach (a :: []) X.env = (false, eval a X.env) :: starEach [] X.env := by rfl) (hpl : (backTo pos (starEach [] X.env)).any (·.1) = false := by rfl) :
    PE X (.Call (.Name "int" pp) [a] [] pos) (SE X.K F (f1 uInt f)) := by
  refine e_c1 (bi := .type "int") (fun r hr => pe_callTy hr hg hm (by decide +kernel) (pa_cons ha pa_nil he) (he := he) (hpl := hpl)) fun d z hz => ?_
  cases d <;> simp only [uInt] at hz <;> cases hz
  · exact ⟨_, call_int1, fun S H v Q ex d1 q => .inr ⟨_, by rw [dq_bool d1], q _ S H (Grow.refl ex) (.int _)⟩⟩
  · exact ⟨_, call_int1, fun S H v Q ex d1 q => .inl ⟨_, by rw [dq_int d1], q _ S H (Grow.refl ex) (.int _)⟩⟩
omit [TabSet] in
/-- isinstance(x, T), T a built-in class -/
def tyD : D → String
  | .none => "NoneType"
  | .bool _ => "bool"
  | .int _ => "int"
  | .str _ => "str"
  | .list _ => "list"
  | .tuple _ => "tuple"
  | .dict _ => "dict"
omit [TabSet] in
def uIs0 (T : String) : D → Option D
  | .dict _ => none
  | d => (kitB (tyD d) T).map .bool
omit [TabSet] in
/-- the common types, without the kit's tables -/
def fIs (T : String) (d : D) : Option Bool :=
  if T = "int" then some (match d with | .int _ | .bool _ => true | _ => false)
  else if T = "bool" then some (match d with | .bool _ => true | _ => false)
  else if T = "tuple" then some (match d with | .tuple _ => true | _ => false)
  else if T = "list" then some (match d with | .list _ => true | _ => false)
  else none
omit [TabSet] in
def uIs (T : String) (d : D) : Option D := match d with
  | .dict _ => none
  | d => match fIs T d with
    | some b => some (.bool b)
    | none => uIs0 T d
omit [TabSet] in
theorem fIs_ok {T : String} {d : D} {b : Bool} (nd : ∀ k, d ≠ .dict k) (h : fIs T d = some b) : uIs0 T d = some (.bool b) := by
  unfold fIs at h
  split at h
  · subst T; cases d <;> cases h <;> first | rfl | exact absurd rfl (nd _)
  split at h
  · subst T; cases d <;> cases h <;> first | rfl | exact absurd rfl (nd _)
  split at h
  · subst T; cases d <;> cases h <;> first | rfl | exact absurd rfl (nd _)
  split at h
  · subst T; cases d <;> cases h <;> first | rfl | exact absurd rfl (nd _)
  · cases h
omit [TabSet] in
theorem uIs_0 {T : String} {d r : D} (h : uIs T d = some r) : uIs0 T d = some r := by
  unfold uIs at h
  split at h
  · cases h
  · rename_i d0 nd
    split at h
    · rename_i b hb
      cases h
      exact fIs_ok nd hb
    · exact h
theorem e_isi {pp pt : Pos} {y : Str} {T : String} (hg : Gl X "isinstance" := by rfl) (hm : X.mg "isinstance" = none) (hgT : Gl X y := by rfl) (hmT : X.mg y = none) (hvT : bootBuiltins y = some (.type T)) (ha : PE X a (SX X.K F f)) (hnT : y ≠ "__name__" := by decide) (hdT : (y == ("__debug__" : Str)) = false := by decide)
    (he : starEach (a :: [.Name y pt]) X.env = (false, eval a X.env) :: starEach [.Name y pt] X.env := by rfl) (hpl : (backTo pos (starEach [.Name y pt] X.env)).any (·.1) = false := by rfl) :
    PE X (.Call (.Name "isinstance" pp) [a, .Name y pt] [] pos) (SE X.K F (f1 (uIs T) f)) := by
  refine pe_of fun S δ d δ' σ H Q R hf q => ⟨_, pe_callB call_isi hg hm (by decide +kernel) (pa_cons ha (pa_cons (pe_bltn hgT hmT hvT (v := .ty T) rfl hnT hdT) pa_nil (by rfl)) he) (he := he) (hpl := hpl), ?_⟩
  obtain ⟨d0, h1, h2⟩ := f1_of hf
  replace h2 := uIs_0 h2
  have hk : ∃ k, kitB (tyD d0) T = some k ∧ d = .bool k := by
    cases d0 <;> simp only [uIs0] at h2 <;> first | cases h2 | skip
    all_goals
      cases hkk : kitB _ T with
      | none => rw [hkk] at h2; cases h2
      | some k =>
        rw [hkk] at h2
        cases h2
        exact ⟨k, rfl, rfl⟩
  obtain ⟨k, hk, rfl⟩ := hk
  refine ⟨S, δ, d0, δ', R, h1, fun v S1 H1 s1 R1 d1 => ?_⟩
  refine ⟨v, .ty T, .type (tyD d0), .type T, k, rfl, .ty T, ?_, kit_ty hk, q _ S1 H1 s1 R1 (.bl k)⟩
  cases d0 with
  | none => rw [dq_none d1]; exact .base .non
  | bool b => rw [dq_bool d1]; exact .base (.bl b)
  | int i => rw [dq_int d1]; exact .base (.int i)
  | str z => rw [dq_str d1]; exact .base (.str z)
  | list ds =>
    obtain ⟨p1, v1, rfl, e1, _⟩ := d1
    exact .base (.lst e1)
  | tuple ds =>
    obtain ⟨p1, v1, rfl, e1, _⟩ := dq_tup d1
    exact .base (.tup (R1.sub _ _ e1))
  | dict _ => cases h2

/-! ### ranges -/
omit [TabSet] in
def rgD (a b : Int) : List D := (List.range (b - a).toNat).map fun i => .int (a + (i : Nat))
theorem dqa_rg (S : Hp) (a b : Int) : DqAll S (rgV a b) (rgD a b) := by
  unfold rgV rgD
  generalize List.range (b - a).toNat = l
  induction l with
  | nil => exact .nil
  | cons i r ih => exact .cons (.int _) ih
omit [TabSet] in
def rgOk (a b : Int) : Bool := decide (0 ≤ a) && decide (b ≤ 100000) && decide (a ≤ 100000) && decide (-100000 ≤ b)
theorem rgOk_of {a b : Int} (h : rgOk a b = true) : RgOk a b := by
  unfold rgOk at h
  simp only [Bool.and_eq_true, decide_eq_true_eq] at h
  exact ⟨by omega, by omega, by omega, by omega, by omega⟩
abbrev MR := DE → Option (Int × Int × DE)
def SRg (K : PySem.W.Frag) (F : Fr) (f : MR) : L2.St → Hp → (Int → Int → Hp → Prop) → Prop := fun σ H Q => ∃ S δ a b δ', RSt K F S H σ δ ∧ f δ = some (a, b, δ') ∧ ∀ S' H', Stp S H S' H' σ δ δ' → RSt K F S' H' σ δ' → Q a b H'
omit [TabSet] in
def r1 (f : M) : MR := fun δ => match f δ with
  | some (.int n, δ') => some (0, n, δ')
  | _ => none
omit [TabSet] in
def r2 (f g : M) : MR := fun δ => match f δ with
  | some (.int a, δ1) => match g δ1 with
    | some (.int b, δ2) => some (a, b, δ2)
    | _ => none
  | _ => none
theorem rg_of {e : Expr} {t t' : L2.St → Hp → (Int → Int → Hp → Prop) → Prop} (h : PRg X e t) (w : ∀ σ H Q, t' σ H Q → t σ H Q) : PRg X e t' := fun pins s σ H Q I hw => h pins s σ H Q I (w σ H Q hw)
theorem rg_1 {pp : Pos} (hg : Gl X "range" := by rfl) (hm : X.mg "range" = none) (ha : PE X a (SE X.K F f)) (na : starEach [a] X.env = (false, eval a X.env) :: starEach [] X.env := by rfl) : PRg X (.Call (.Name "range" pp) [a] [] pos) (SRg X.K F (r1 f)) :=
  rg_of (prg_1 hg hm ha na) fun σ H Q hw => by
    obtain ⟨S, δ, i, j, δ', R, hf, q⟩ := hw
    unfold r1 at hf
    split at hf
    · rename_i n δ1 h1
      cases hf
      exact ⟨S, δ, _, _, R, h1, fun v S1 H1 s1 R1 d1 => ⟨_, dq_int d1, q S1 H1 s1 R1⟩⟩
    · cases hf
theorem rg_2 {pp : Pos} (hg : Gl X "range" := by rfl) (hm : X.mg "range" = none) (ha : PE X a (SE X.K F f)) (hb : PE X b (SE X.K F g)) (na : starEach [a, b] X.env = (false, eval a X.env) :: starEach [b] X.env := by rfl)
    (nb : starEach [b] X.env = (false, eval b X.env) :: starEach [] X.env := by rfl) (hp : (backTo pos (starEach [b] X.env)).any (·.1) = false := by rfl) : PRg X (.Call (.Name "range" pp) [a, b] [] pos) (SRg X.K F (r2 f g)) :=
  rg_of (prg_2 hg hm ha hb na nb hp) fun σ H Q hw => by
    obtain ⟨S, δ, i, j, δ', R, hf, q⟩ := hw
    unfold r2 at hf
    split at hf
    · rename_i n δ1 h1
      split at hf
      · rename_i m δ2 h2
        cases hf
        exact ⟨S, δ, _, _, R, h1, fun v S1 H1 s1 R1 d1 => ⟨S1, _, _, _, R1, h2, fun w S2 H2 s2 R2 d2 => ⟨_, _, dq_int d1, dq_int d2, q S2 H2 (s1.trans s2) R2⟩⟩⟩
      · cases hf
    · cases hf
omit [TabSet] in
def lRg (fr : MR) : MA := fun δ => match fr δ with
  | some (a, b, δ') => if rgOk a b = true then some (rgD a b, δ') else none
  | none => none
theorem f_listRg {pp : Pos} {fr : MR} (hc : X.calm = true) (hg : Gl X "list" := by rfl) (hm : X.mg "list" = none) (he : PRg X e (SRg X.K F fr)) (na : starEach [e] X.env = (false, eval e X.env) :: starEach [] X.env := by rfl) : PE X (.Call (.Name "list" pp) [e] [] pos) (SF X.K F (lRg fr)) := by
  refine pf_of fun S δ d δ' σ H Q R hf q => ⟨_, pe_listRg hc hg hm he na, ?_⟩
  unfold lRg at hf
  cases h1 : fr δ with
  | none => rw [h1] at hf; cases hf
  | some p =>
    obtain ⟨i, j, δ1⟩ := p
    rw [h1] at hf
    simp only at hf
    split at hf
    · rename_i hk
      cases hf
      refine ⟨S, δ, i, j, _, R, h1, fun S1 H1 s1 R1 => ⟨rgOk_of hk, fun p hp => ?_⟩⟩
      obtain ⟨R2, s2, n2⟩ := lay_fresh (o := .lst (rgV i j)) R1 hp
      refine q p _ S1 _ (s1.trans s2) R2 ?_ n2 upd_same (dqa_rg S1 i j)
      cases hz : H p with
      | none => rfl
      | some o =>
        obtain ⟨o', q'⟩ := s1.dom p o hz
        rw [hp] at q'; cases q'
    · cases hf
omit [TabSet] in
def fTupRg (fr : MR) : M := fun δ => match fr δ with
  | some (a, b, δ') => if rgOk a b = true then some (.tuple (rgD a b), δ') else none
  | none => none
theorem e_tupRg {pp : Pos} {fr : MR} (hc : X.calm = true) (hg : Gl X "tuple" := by rfl) (hm : X.mg "tuple" = none) (he : PRg X e (SRg X.K F fr)) (na : starEach [e] X.env = (false, eval e X.env) :: starEach [] X.env := by rfl) : PE X (.Call (.Name "tuple" pp) [e] [] pos) (SE X.K F (fTupRg fr)) := by
  refine pe_of fun S δ d δ' σ H Q R hf q => ⟨_, pe_tupRg hc hg hm he na, ?_⟩
  unfold fTupRg at hf
  cases h1 : fr δ with
  | none => rw [h1] at hf; cases hf
  | some p =>
    obtain ⟨i, j, δ1⟩ := p
    rw [h1] at hf
    simp only at hf
    split at hf
    · rename_i hk
      cases hf
      refine ⟨S, δ, i, j, _, R, h1, fun S1 H1 s1 R1 => ⟨rgOk_of hk, fun p hp => ?_⟩⟩
      obtain ⟨g1, g2⟩ := grow_tup R1.sub hp (dqa_rg S1 i j)
      exact q _ _ _ (s1.trans (Stp.grow g1)) (R1.grow g1) g2
    · cases hf
end
end Pd

/-! What is walked, targets, comprehensions. -/
namespace Pd
open PySem PySem.Spec PyProof.Rows L2
open Evl (Ex)
variable [TabSet]
structure Its (J : It) (S : Hp) (ds : List D) : Prop where
  go : ∀ i S2 H2, Ex S S2 → Ex S2 H2 → i < ds.length → J.go i H2
  yld : ∀ i S2 H2 x H3 d, Ex S S2 → Ex S2 H2 → J.yld i H2 x H3 → ds[i]? = some d → ∃ S3, Grow S2 H2 S3 H3 ∧ Dq S3 x d
  stop : ∀ i S2 H2, Ex S S2 → Ex S2 H2 → ds.length ≤ i → J.stop i H2
def SI (K : PySem.W.Frag) (F : Fr) (f : MA) : TI := fun σ H R => ∃ S δ ds δ', RSt K F S H σ δ ∧ f δ = some (ds, δ') ∧
  ∀ J S' H', Stp S H S' H' σ δ δ' → RSt K F S' H' σ δ' → Its J S' ds → R J H'
section
variable {X : Cx} {F : Fr} {e a b c tg : Expr} {pos p : Pos} {f g h : M} {tf : MT}
theorem pi_of {ff : MA} (h : ∀ S δ ds δ' σ H R, RSt X.K F S H σ δ → ff δ = some (ds, δ') → (∀ J S' H', Stp S H S' H' σ δ δ' → RSt X.K F S' H' σ δ' → Its J S' ds → R J H') → ∃ t, PI X tg e t ∧ t σ H R) : PI X tg e (SI X.K F ff) :=
  ⟨fun pins s σ H R I hw => by
    obtain ⟨S, δ, d, δ', Rs, hf, q⟩ := hw
    obtain ⟨t, ht, hq⟩ := h S δ d δ' σ H R Rs hf q
    exact ht.run pins s σ H R I hq⟩
theorem dqa_at {S : Hp} {vs : List V} {ds : List D} {i : Nat} {d : D} {x : V} (h : DqAll S vs ds) (e : ds[i]? = some d) (ex : vs[i]? = some x) : Dq S x d := by
  obtain ⟨v, ev, dv⟩ := dqa_get' h e
  rw [ex] at ev
  cases ev
  exact dv
theorem its_list {K : PySem.W.Frag} {S : Hp} {p : Addr} {vs : List V} {ds : List D} (e1 : S p = some (.lst vs)) (d1 : DqAll S vs ds) : Its (Itl K p) S ds where
  go := fun i S2 H2 x1 x2 hi => by
    have hl := dqa_len d1
    exact ⟨vs, vs[i]'(by omega), SqL.of (x2 _ _ (x1 _ _ e1)), List.getElem?_eq_getElem (by omega)⟩
  yld := fun i S2 H2 x H3 d x1 x2 hy hd => by
    obtain ⟨rfl, hy⟩ := hy
    exact ⟨S2, Grow.refl x2, dq_ext x1 (dqa_at d1 hd (hy vs (SqL.of (x2 _ _ (x1 _ _ e1)))))⟩
  stop := fun i S2 H2 x1 x2 hi => ⟨vs, SqL.of (x2 _ _ (x1 _ _ e1)), by rw [dqa_len d1]; exact hi⟩
theorem its_tup {K : PySem.W.Frag} {S : Hp} {p : Addr} {vs : List V} {ds : List D} (e1 : S p = some (.tup vs)) (d1 : DqAll S vs ds) : Its (Itt K p) S ds where
  go := fun i S2 H2 x1 x2 hi => by
    have hl := dqa_len d1
    exact ⟨vs, vs[i]'(by omega), SqT.of (x2 _ _ (x1 _ _ e1)), List.getElem?_eq_getElem (by omega)⟩
  yld := fun i S2 H2 x H3 d x1 x2 hy hd => by
    obtain ⟨rfl, hy⟩ := hy
    exact ⟨S2, Grow.refl x2, dq_ext x1 (dqa_at d1 hd (hy vs (SqT.of (x2 _ _ (x1 _ _ e1)))))⟩
  stop := fun i S2 H2 x1 x2 hi => ⟨vs, SqT.of (x2 _ _ (x1 _ _ e1)), by rw [dqa_len d1]; exact hi⟩
omit [TabSet] in
def iSeq (f : M) : MA := fun δ => match f δ with
  | some (.list ds, δ') => some (ds, δ')
  | some (.tuple ds, δ') => some (ds, δ')
  | _ => none
theorem i_seq (he : PE X e (SE X.K F f)) : PI X tg e (SI X.K F (iSeq f)) := by
  refine pi_of fun S δ ds δ' σ H R Rs hf q => ?_
  unfold iSeq at hf
  split at hf
  · rename_i zs δ1 h1
    cases hf
    refine ⟨_, pi_list he, S, δ, _, _, Rs, h1, fun v S1 H1 s1 R1 d1 => ?_⟩
    obtain ⟨p1, v1, rfl, e1, d1⟩ := dq_list d1
    exact ⟨p1, rfl, ⟨v1, SqL.of (R1.sub _ _ e1)⟩, q _ S1 H1 s1 R1 (its_list e1 d1)⟩
  · rename_i zs δ1 h1
    cases hf
    refine ⟨_, pi_tup he, S, δ, _, _, Rs, h1, fun v S1 H1 s1 R1 d1 => ?_⟩
    obtain ⟨p1, v1, rfl, e1, d1⟩ := dq_tup d1
    exact ⟨p1, rfl, ⟨v1, SqT.of (R1.sub _ _ e1)⟩, q _ S1 H1 s1 R1 (its_tup e1 d1)⟩
  · cases hf
theorem its_rg {S : Hp} {i j : Int} : Its (Itr i (j - i).toNat) S (rgD i j) where
  go := fun k S2 H2 x1 x2 hi => by
    unfold rgD at hi
    rw [List.length_map, List.length_range] at hi
    exact hi
  yld := fun k S2 H2 x H3 d x1 x2 hy hd => by
    obtain ⟨rfl, rfl⟩ := hy
    refine ⟨S2, Grow.refl x2, ?_⟩
    unfold rgD at hd
    rw [List.getElem?_map] at hd
    cases hk : (List.range (j - i).toNat)[k]? with
    | none => rw [hk] at hd; cases hd
    | some m =>
      rw [hk] at hd
      cases hd
      have hm : m = k := by
        have := (List.getElem?_eq_some_iff.mp hk).2
        rw [List.getElem_range] at this
        exact this.symm
      subst hm
      exact .int _
  stop := fun k S2 H2 x1 x2 hi => by
    unfold rgD at hi
    rw [List.length_map, List.length_range] at hi
    exact hi
theorem i_rg1 {pp : Pos} (hg : Gl X "range" := by rfl) (hm : X.mg "range" = none) (ha : PE X a (SE X.K F f)) (hs : starEach [a] X.env = [(false, eval a X.env)] := by rfl) (na : starEach [a] X.env = (false, eval a X.env) :: starEach [] X.env := by rfl) : PI X tg (.Call (.Name "range" pp) [a] [] pos) (SI X.K F (lRg (r1 f))) := by
  refine pi_of fun S δ ds δ' σ H R Rs hf q => ⟨_, pi_range1 hg hm (pa_cons ha pa_nil na) hs, ?_⟩
  unfold lRg r1 at hf
  cases h1 : f δ with
  | none => rw [h1] at hf; cases hf
  | some p =>
    obtain ⟨d, δ1⟩ := p
    rw [h1] at hf
    cases d <;> simp only at hf <;> first | cases hf | skip
    rename_i n
    split at hf
    · rename_i hk
      cases hf
      have ok := rgOk_of hk
      refine ⟨S, δ, _, _, Rs, h1, fun v S1 H1 s1 R1 d1 => ⟨n, by rw [dq_int d1], ok.2.2.1, ok.2.2.2.1, ?_⟩⟩
      have e0 : n.toNat = (n - 0).toNat := by omega
      rw [e0]
      exact q _ S1 H1 s1 R1 its_rg
    · cases hf
theorem i_rg2 {pp : Pos} (hg : Gl X "range" := by rfl) (hm : X.mg "range" = none) (ha : PE X a (SE X.K F f)) (hb : PE X b (SE X.K F g)) (hs : starEach [a, b] X.env = [(false, eval a X.env), (false, eval b X.env)] := by rfl) (hs2 : starEach [b] X.env = [(false, eval b X.env)] := by rfl)
    (na : starEach [a, b] X.env = (false, eval a X.env) :: starEach [b] X.env := by rfl) (nb : starEach [b] X.env = (false, eval b X.env) :: starEach [] X.env := by rfl) : PI X tg (.Call (.Name "range" pp) [a, b] [] pos) (SI X.K F (lRg (r2 f g))) := by
  refine pi_of fun S δ ds δ' σ H R Rs hf q => ⟨_, pi_range2 hg hm (pa_cons ha (pa_cons hb pa_nil nb) na) hs hs2, ?_⟩
  unfold lRg r2 at hf
  cases h1 : f δ with
  | none => rw [h1] at hf; cases hf
  | some p =>
    obtain ⟨d, δ1⟩ := p
    rw [h1] at hf
    cases d <;> simp only at hf <;> first | cases hf | skip
    rename_i i
    cases h2 : g δ1 with
    | none => rw [h2] at hf; cases hf
    | some p =>
      obtain ⟨d2, δ2⟩ := p
      rw [h2] at hf
      cases d2 <;> simp only at hf <;> first | cases hf | skip
      rename_i j
      split at hf
      · rename_i hk
        cases hf
        have ok := rgOk_of hk
        exact ⟨S, δ, _, _, Rs, h1, fun v S1 H1 s1 R1 d1 => ⟨S1, _, _, _, R1, h2, fun w S2 H2 s2 R2 d2 => ⟨i, j, by rw [dq_int d1, dq_int d2], ⟨ok.1, ok.2.1, ok.2.2.1, ok.2.2.2.1⟩, q _ S2 H2 (s1.trans s2) R2 its_rg⟩⟩⟩
      · cases hf
omit [TabSet] in
/-- zip of two lists, of two tuples -/
def zipD : List D → List D → List D
  | x :: xs, y :: ys => .tuple [x, y] :: zipD xs ys
  | _, _ => []
theorem zipD_len : ∀ xs ys : List D, (zipD xs ys).length = min xs.length ys.length
  | [], ys => by simp [zipD]
  | x :: xs, [] => by simp [zipD]
  | x :: xs, y :: ys => by simp only [zipD, List.length_cons, zipD_len xs ys]; omega
theorem zipD_get : ∀ (xs ys : List D) (i : Nat) (d : D), (zipD xs ys)[i]? = some d → ∃ x y, xs[i]? = some x ∧ ys[i]? = some y ∧ d = .tuple [x, y]
  | [], ys, i, d, h => by simp [zipD] at h
  | x :: xs, [], i, d, h => by simp [zipD] at h
  | x :: xs, y :: ys, 0, d, h => ⟨x, y, rfl, rfl, (Option.some.inj h).symm⟩
  | x :: xs, y :: ys, i + 1, d, h => zipD_get xs ys i d h
omit [TabSet] in
def iZip2 (f g : M) : MA := fun δ => match f δ with
  | some (.list xs, δ1) => match g δ1 with
    | some (.list ys, δ2) => some (zipD xs ys, δ2)
    | _ => none
  | some (.tuple xs, δ1) => match g δ1 with
    | some (.tuple ys, δ2) => some (zipD xs ys, δ2)
    | _ => none
  | _ => none
theorem pair_new {S2 H2 : Hp} (x2 : Ex S2 H2) {T : Addr} {x y : V} {d1 d2 : D} (hT : H2 T = none) (h1 : Dq S2 x d1) (h2 : Dq S2 y d2) : ∃ S3, Grow S2 H2 S3 (upd H2 T (.tup [x, y])) ∧ Dq S3 (.ref T) (.tuple [d1, d2]) :=
  ⟨_, grow_tup x2 hT (.cons h1 (.cons h2 .nil))⟩
theorem i_zip {pp tpos : Pos} {elts : List Expr} {kk : Nat} (hg : Gl X "zip" := by rfl) (hm : X.mg "zip" = none) (ha : PE X a (SE X.K F f)) (hb : PE X b (SE X.K F g)) (hs : starEach [a, b] X.env = (false, eval a X.env) :: starEach [b] X.env := by rfl)
    (hpl : (backTo pos (starEach [b] X.env)).any (·.1) = false := by rfl) (nb : starEach [b] X.env = (false, eval b X.env) :: starEach [] X.env := by rfl) : PI X (.Tuple elts kk tpos) (.Call (.Name "zip" pp) [a, b] [] pos) (SI X.K F (iZip2 f g)) := by
  refine pi_of fun S δ ds δ' σ H R Rs hf q => ⟨_, RZ.pi_zipA hg hm (pa_cons ha (pa_cons hb pa_nil nb) hs) hs hpl, ?_⟩
  unfold iZip2 at hf
  split at hf
  · rename_i xs δ1 h1
    split at hf
    · rename_i ys δ2 h2
      cases hf
      refine ⟨S, δ, _, _, Rs, h1, fun v S1 H1 s1 R1 d1 => ⟨S1, _, _, _, R1, h2, fun w S2 H2 s2 R2 d2 => ?_⟩⟩
      obtain ⟨p1, v1, rfl, e1, d1⟩ := dq_list (dq_ext s2.s d1)
      obtain ⟨p2, v2, rfl, e2, d2⟩ := dq_list d2
      have l1 := dqa_len d1
      have l2 := dqa_len d2
      refine ⟨p1, p2, v1, v2, rfl, .inl ⟨SqL.of (R2.sub _ _ e1), SqL.of (R2.sub _ _ e2), q _ S2 H2 (s1.trans s2) R2 ⟨fun i S3 H3 x1 x2 hi => ?_, fun i S3 H3 x H4 d x1 x2 hy hd => ?_, fun i S3 H3 x1 x2 hi => ?_⟩⟩⟩
      · rw [zipD_len] at hi
        exact ⟨v1, v2, v1[i]'(by omega), v2[i]'(by omega), SqL.of (x2 _ _ (x1 _ _ e1)), SqL.of (x2 _ _ (x1 _ _ e2)), List.getElem?_eq_getElem _, List.getElem?_eq_getElem _⟩
      · obtain ⟨T, x, y, rfl, hT, rfl, k1, k2⟩ := hy
        obtain ⟨dx, dy, z1, z2, rfl⟩ := zipD_get _ _ _ _ hd
        exact pair_new x2 hT (dq_ext x1 (dqa_at d1 z1 (k1 _ (SqL.of (x2 _ _ (x1 _ _ e1)))))) (dq_ext x1 (dqa_at d2 z2 (k2 _ (SqL.of (x2 _ _ (x1 _ _ e2))))))
      · rw [zipD_len] at hi
        exact ⟨v1, v2, SqL.of (x2 _ _ (x1 _ _ e1)), SqL.of (x2 _ _ (x1 _ _ e2)), by omega⟩
    · cases hf
  · rename_i xs δ1 h1
    split at hf
    · rename_i ys δ2 h2
      cases hf
      refine ⟨S, δ, _, _, Rs, h1, fun v S1 H1 s1 R1 d1 => ⟨S1, _, _, _, R1, h2, fun w S2 H2 s2 R2 d2 => ?_⟩⟩
      obtain ⟨p1, v1, rfl, e1, d1⟩ := dq_tup (dq_ext s2.s d1)
      obtain ⟨p2, v2, rfl, e2, d2⟩ := dq_tup d2
      have l1 := dqa_len d1
      have l2 := dqa_len d2
      refine ⟨p1, p2, v1, v2, rfl, .inr ⟨SqT.of (R2.sub _ _ e1), SqT.of (R2.sub _ _ e2), q _ S2 H2 (s1.trans s2) R2 ⟨fun i S3 H3 x1 x2 hi => ?_, fun i S3 H3 x H4 d x1 x2 hy hd => ?_, fun i S3 H3 x1 x2 hi => ?_⟩⟩⟩
      · rw [zipD_len] at hi
        exact ⟨v1, v2, v1[i]'(by omega), v2[i]'(by omega), SqT.of (x2 _ _ (x1 _ _ e1)), SqT.of (x2 _ _ (x1 _ _ e2)), List.getElem?_eq_getElem _, List.getElem?_eq_getElem _⟩
      · obtain ⟨T, x, y, rfl, hT, rfl, k1, k2⟩ := hy
        obtain ⟨dx, dy, z1, z2, rfl⟩ := zipD_get _ _ _ _ hd
        exact pair_new x2 hT (dq_ext x1 (dqa_at d1 z1 (k1 _ (SqT.of (x2 _ _ (x1 _ _ e1)))))) (dq_ext x1 (dqa_at d2 z2 (k2 _ (SqT.of (x2 _ _ (x1 _ _ e2))))))
      · rw [zipD_len] at hi
        exact ⟨v1, v2, SqT.of (x2 _ _ (x1 _ _ e1)), SqT.of (x2 _ _ (x1 _ _ e2)), by omega⟩
    · cases hf
  · cases hf
omit [TabSet] in
/-- enumerate of a list -/
def enumD : Nat → List D → List D
  | _, [] => []
  | i, x :: xs => .tuple [.int (i : Nat), x] :: enumD (i + 1) xs
theorem enumD_len : ∀ (i : Nat) (xs : List D), (enumD i xs).length = xs.length
  | _, [] => rfl
  | i, x :: xs => by simp only [enumD, List.length_cons, enumD_len (i + 1) xs]
theorem enumD_get : ∀ (k : Nat) (xs : List D) (i : Nat) (d : D), (enumD k xs)[i]? = some d → ∃ x, xs[i]? = some x ∧ d = .tuple [.int ((k + i : Nat) : Int), x]
  | k, [], i, d, h => by simp [enumD] at h
  | k, x :: xs, 0, d, h => ⟨x, rfl, (Option.some.inj h).symm⟩
  | k, x :: xs, i + 1, d, h => by
    obtain ⟨z, h1, h2⟩ := enumD_get (k + 1) xs i d h
    refine ⟨z, h1, ?_⟩
    rw [h2, show k + 1 + i = k + (i + 1) by omega]
omit [TabSet] in
def iEnumL (f : M) : MA := fun δ => match f δ with
  | some (.list xs, δ1) => some (enumD 0 xs, δ1)
  | _ => none
theorem i_enumL {pp tpos : Pos} {elts : List Expr} {kk : Nat} (hg : Gl X "enumerate" := by rfl) (hm : X.mg "enumerate" = none) (ha : PE X a (SE X.K F f)) (hs : starEach [a] X.env = [(false, eval a X.env)] := by rfl) (na : starEach [a] X.env = (false, eval a X.env) :: starEach [] X.env := by rfl) :
    PI X (.Tuple elts kk tpos) (.Call (.Name "enumerate" pp) [a] [] pos) (SI X.K F (iEnumL f)) := by
  refine pi_of fun S δ ds δ' σ H R Rs hf q => ⟨_, pi_enum hg hm (pa_cons ha pa_nil na) hs, ?_⟩
  unfold iEnumL at hf
  split at hf
  · rename_i xs δ1 h1
    cases hf
    refine ⟨S, δ, _, _, Rs, h1, fun v S1 H1 s1 R1 d1 => ?_⟩
    obtain ⟨p1, v1, rfl, e1, d1⟩ := dq_list d1
    have l1 := dqa_len d1
    refine ⟨p1, v1, rfl, SqL.of (R1.sub _ _ e1), q _ S1 H1 s1 R1 ⟨fun i S3 H3 x1 x2 hi => ?_, fun i S3 H3 x H4 d x1 x2 hy hd => ?_, fun i S3 H3 x1 x2 hi => ?_⟩⟩
    · rw [enumD_len] at hi
      exact ⟨v1, v1[i]'(by omega), SqL.of (x2 _ _ (x1 _ _ e1)), List.getElem?_eq_getElem _⟩
    · obtain ⟨T, x, rfl, hT, rfl, k1⟩ := hy
      obtain ⟨dx, z1, rfl⟩ := enumD_get _ _ _ _ hd
      rw [Nat.zero_add]
      exact pair_new x2 hT (.int _) (dq_ext x1 (dqa_at d1 z1 (k1 _ (SqL.of (x2 _ _ (x1 _ _ e1))))))
    · rw [enumD_len] at hi
      exact ⟨v1, SqL.of (x2 _ _ (x1 _ _ e1)), by omega⟩
  · cases hf

/-! ### targets that are names -/
abbrev MG := D → DE → Option DE
abbrev MGs := List D → DE → Option DE
/-- the slots in vs take values -/
def SG (K : PySem.W.Frag) (F : Fr) (vs : List Nat) (g : MG) : TG := fun v σ H Q => ∃ S δ d δ', RSt K F S H σ δ ∧ Dq S v d ∧ g d δ = some δ' ∧
  ∀ σ', RSt K F S H σ' δ' → σ'.length = σ.length → (∀ j, j ∉ vs → σ'[j]? = σ[j]?) → (∀ (i : Nat) xs, δ'[i]? = some (.ow xs) → δ[i]? = some (.ow xs) ∧ i ∉ vs) → Q σ' H
def SGs (K : PySem.W.Frag) (F : Fr) (vs : List Nat) (g : MGs) : TGs := fun us σ H Q => ∃ S δ d δ', RSt K F S H σ δ ∧ DqAll S us d ∧ g d δ = some δ' ∧
  ∀ σ', RSt K F S H σ' δ' → σ'.length = σ.length → (∀ j, j ∉ vs → σ'[j]? = σ[j]?) → (∀ (i : Nat) xs, δ'[i]? = some (.ow xs) → δ[i]? = some (.ow xs) ∧ i ∉ vs) → Q σ' H
omit [TabSet] in
/-- no slot of vs is one's own -/
def noOwn (vs : List Nat) (δ : DE) : Bool := vs.all fun i => match δ[i]? with
  | some (.ow _) => false
  | _ => true
theorem noOwn_of {vs : List Nat} {δ : DE} (h : noOwn vs δ = true) {i : Nat} {xs : Ob} (e : δ[i]? = some (.ow xs)) : i ∉ vs := fun hm => by
  have q := List.all_eq_true.mp h i hm
  rw [e] at q
  cases q
omit [TabSet] in
/-- the slot 0 is not a list that is lent -/
def free0 (i : Nat) (δ : DE) : Bool := match i, δ[0]? with
  | 0, some (Slot.ow _) => false
  | _, _ => true
theorem free0_of {i : Nat} {δ : DE} (h : free0 i δ = true) : i = 0 → ∀ xs, δ[0]? ≠ some (.ow xs) := fun e xs z => by
  subst e
  unfold free0 at h
  rw [z] at h
  cases h
omit [TabSet] in
def gN (i : Nat) : MG := fun d δ => if free0 i δ = true then some (δ.set i (.sh d)) else none
theorem set_ow {δ : DE} {i j : Nat} {d : D} {xs : Ob} (h : (δ.set i (.sh d))[j]? = some (.ow xs)) : δ[j]? = some (.ow xs) ∧ j ≠ i := by
  by_cases hj : i = j
  · subst hj
    by_cases hl : i < δ.length
    · rw [List.getElem?_set_self hl] at h; cases h
    · rw [List.getElem?_eq_none (by rw [List.length_set]; omega)] at h; cases h
  · rw [List.getElem?_set_ne hj] at h
    exact ⟨h, fun z => hj z.symm⟩
theorem pg_of {vs : List Nat} {gg : MG} {t : TG} (hp : PG X tg t) (w : ∀ v σ H Q, SG X.K F vs gg v σ H Q → t v σ H Q) : PG X tg (SG X.K F vs gg) := ⟨fun pins s σ H v u Q I r hw => hp.run pins s σ H v u Q I r (w v σ H Q hw)⟩
theorem pgs_of {es : List Expr} {vs : List Nat} {gg : MGs} {t : TGs} (hp : PGs X es t) (w : ∀ v σ H Q, SGs X.K F vs gg v σ H Q → t v σ H Q) : PGs X es (SGs X.K F vs gg) := ⟨fun pins s σ H v u Q I r hw => hp.run pins s σ H v u Q I r (w v σ H Q hw)⟩
theorem g_name {i : Nat} {x : Str} (hN : X.N.Nodup) (hi : X.N[i]? = some x := by rfl) (hx : Loc X.env.scope x := by first | exact Or.inl rfl | exact Or.inr rfl) (hf : X.fn x = true ∨ X.env.scope.names.lookup x = some .local := by first | exact .inl rfl | exact .inr rfl) : PG X (.Name x pos) (SG X.K F [i] (gN i)) :=
  pg_of (pg_name hN hi hx hf) fun v σ H Q hw => by
    obtain ⟨S, δ, d, δ', R, dv, hg, q⟩ := hw
    unfold gN at hg
    split at hg
    · rename_i hf0
      cases hg
      refine q _ (R.set_sh dv i (free0_of hf0)) (List.length_set) (fun j hj => ?_) fun j xs e => ?_
      · rw [List.getElem?_set_ne (fun z => hj (by rw [z]; exact List.mem_singleton.mpr rfl))]
      · obtain ⟨e1, e2⟩ := set_ow e
        exact ⟨e1, fun z => e2 (List.mem_singleton.mp z)⟩
    · cases hg
omit [TabSet] in
def gsNil : MGs := fun ds δ => match ds with
  | [] => some δ
  | _ => none
omit [TabSet] in
def gsCons (g : MG) (gs : MGs) : MGs := fun ds δ => match ds with
  | d :: r => match g d δ with
    | some δ1 => gs r δ1
    | none => none
  | _ => none
theorem gs_nil : PGs X [] (SGs X.K F [] gsNil) := pgs_of pgs_nil fun us σ H Q hw => by
  obtain ⟨S, δ, d, δ', R, dv, hg, q⟩ := hw
  cases dv with
  | nil =>
    cases hg
    exact ⟨rfl, q σ R rfl (fun _ _ => rfl) fun i xs e => ⟨e, by simp⟩⟩
  | cons _ _ => cases hg
theorem gs_cons {es : List Expr} {vs ws : List Nat} {gg : MG} {gs : MGs} (h1 : PG X e (SG X.K F vs gg)) (h2 : PGs X es (SGs X.K F ws gs)) (hs : (assignEach (e :: es) X.env).map (·.2) = assign e X.env :: (assignEach es X.env).map (·.2) := by rfl) : PGs X (e :: es) (SGs X.K F (vs ++ ws) (gsCons gg gs)) :=
  pgs_of (pgs_cons h1 h2 hs) fun us σ H Q hw => by
    obtain ⟨S, δ, d, δ', R, dv, hg, q⟩ := hw
    cases dv with
    | nil => cases hg
    | cons a1 r1 =>
      simp only [gsCons] at hg
      split at hg
      · rename_i δ1 k1
        refine ⟨_, _, rfl, S, δ, _, δ1, R, a1, k1, fun σ1 R1 l1 c1 o1 => ⟨S, δ1, _, δ', R1, r1, hg, fun σ2 R2 l2 c2 o2 => q σ2 R2 (l2.trans l1) (fun j hj => ?_) fun i xs e => ?_⟩⟩
        · rw [c2 j (fun z => hj (List.mem_append_right _ z)), c1 j (fun z => hj (List.mem_append_left _ z))]
        · obtain ⟨e1, n1⟩ := o2 i xs e
          obtain ⟨e2, n2⟩ := o1 i xs e1
          exact ⟨e2, fun z => (List.mem_append.mp z).elim n2 n1⟩
      · cases hg
omit [TabSet] in
def gT (gs : MGs) : MG := fun d δ => match d with
  | .tuple ds => gs ds δ
  | _ => none
theorem gs_len {gg : MGs} : True := trivial
theorem g_tup {es : List Expr} {k n : Nat} {vs : List Nat} {gs : MGs} (hc : X.calm = true) (h : PGs X es (SGs X.K F vs gs)) (hn : (assignEach es X.env).length = n := by rfl) (hst : (assignEach es X.env).findIdx? (·.1) = none := by rfl)
    (hl : ∀ ds δ δ', gs ds δ = some δ' → ds.length = n) : PG X (.Tuple es k pos) (SG X.K F vs (gT gs)) :=
  pg_of (pg_tup hc h hn hst) fun v σ H Q hw => by
    obtain ⟨S, δ, d, δ', R, dv, hg, q⟩ := hw
    unfold gT at hg
    split at hg
    · obtain ⟨p1, v1, rfl, e1, d1⟩ := dq_tup dv
      exact ⟨p1, v1, rfl, SqT.of (R.sub _ _ e1), by rw [dqa_len d1]; exact hl _ _ _ hg, S, δ, _, δ', R, d1, hg, q⟩
    · cases hg
theorem gsNil_len : ∀ ds δ δ', gsNil ds δ = some δ' → ds.length = 0
  | [], _, _, _ => rfl
  | _ :: _, _, _, h => by cases h
theorem gsCons_len {g : MG} {gs : MGs} {n : Nat} (h : ∀ ds δ δ', gs ds δ = some δ' → ds.length = n) : ∀ ds δ δ', gsCons g gs ds δ = some δ' → ds.length = n + 1
  | [], _, _, e => by cases e
  | d :: r, δ, δ', e => by
    simp only [gsCons] at e
    split at e
    · rw [List.length_cons, h _ _ _ e]
    · cases e

/-! ### comprehensions -/
omit [TabSet] in
def wipeD (δ : DE) : List Nat → DE
  | [] => δ
  | v :: vs => (wipeD δ vs).set v .no
omit [TabSet] in
def mergeD (δ1 δ2 : DE) : List Nat → DE
  | [] => δ2
  | v :: vs => (mergeD δ1 δ2 vs).set v (δ1[v]?.getD .no)
theorem wipeD_len (δ : DE) : ∀ vs : List Nat, (wipeD δ vs).length = δ.length
  | [] => rfl
  | v :: vs => by unfold wipeD; rw [List.length_set, wipeD_len δ vs]
theorem mergeD_len (δ1 δ : DE) : ∀ vs : List Nat, (mergeD δ1 δ vs).length = δ.length
  | [] => rfl
  | v :: vs => by unfold mergeD; rw [List.length_set, mergeD_len δ1 δ vs]
theorem wipeD_out {δ : DE} {i : Nat} : ∀ {vs : List Nat}, i ∉ vs → (wipeD δ vs)[i]? = δ[i]?
  | [], _ => rfl
  | v :: vs, h => by
    unfold wipeD
    rw [List.getElem?_set_ne (fun z => h (by rw [z]; exact List.mem_cons_self)), wipeD_out fun z => h (List.mem_cons_of_mem _ z)]
theorem wipeD_in {δ : DE} {i : Nat} (hi : i < δ.length) : ∀ {vs : List Nat}, i ∈ vs → (wipeD δ vs)[i]? = some .no
  | v :: vs, h => by
    unfold wipeD
    by_cases e : v = i
    · subst e
      rw [List.getElem?_set_self (by rw [wipeD_len]; exact hi)]
    · rw [List.getElem?_set_ne e]
      exact wipeD_in hi ((List.mem_cons.mp h).resolve_left fun z => e z.symm)
theorem mergeD_out {δ1 δ : DE} {i : Nat} : ∀ {vs : List Nat}, i ∉ vs → (mergeD δ1 δ vs)[i]? = δ[i]?
  | [], _ => rfl
  | v :: vs, h => by
    unfold mergeD
    rw [List.getElem?_set_ne (fun z => h (by rw [z]; exact List.mem_cons_self)), mergeD_out fun z => h (List.mem_cons_of_mem _ z)]
theorem mergeD_in {δ1 δ : DE} {i : Nat} (hi : i < δ.length) (h1 : i < δ1.length) : ∀ {vs : List Nat}, i ∈ vs → (mergeD δ1 δ vs)[i]? = δ1[i]?
  | v :: vs, h => by
    unfold mergeD
    by_cases e : v = i
    · subst e
      rw [List.getElem?_set_self (by rw [mergeD_len]; exact hi), List.getElem?_eq_getElem h1]
      rfl
    · rw [List.getElem?_set_ne e]
      exact mergeD_in hi h1 ((List.mem_cons.mp h).resolve_left fun z => e z.symm)
/-- the own names are wiped -/
theorem RSt.wipe {K : PySem.W.Frag} {S H : Hp} {σ τ : L2.St} {δ : DE} {vs : List Nat} (R : RSt K F S H σ δ) (hl : τ.length = σ.length) (hs : ∀ j, j ∉ vs → τ[j]? = σ[j]?) (h0 : ∀ xs, δ[0]? = some (.ow xs) → 0 ∉ vs) : RSt K F S H τ (wipeD δ vs) := by
  have look : ∀ (j : Nat) (s : Slot), (wipeD δ vs)[j]? = some s → (j ∈ vs ∧ s = .no) ∨ (j ∉ vs ∧ δ[j]? = some s) := fun j s h => by
    by_cases hj : j ∈ vs
    · have hlt : j < δ.length := by
        have := (List.getElem?_eq_some_iff.mp h).1
        rwa [wipeD_len] at this
      rw [wipeD_in hlt hj] at h
      exact .inl ⟨hj, (Option.some.inj h).symm⟩
    · rw [wipeD_out hj] at h
      exact .inr ⟨hj, h⟩
  refine ⟨R.sub, R.base, R.dom0, R.tb0, R.s0, R.out, R.iop, by rw [wipeD_len, hl, R.len], fun i x s h1 h2 => ?_, fun i j a xs ys h1 h2 h3 h4 => ?_, fun a e => ?_⟩
  · rcases look i s h2 with ⟨_, rfl⟩ | ⟨n, q⟩
    · trivial
    · rw [hs i n] at h1
      exact R.slot i x s h1 q
  · rcases look i _ h1 with ⟨_, z⟩ | ⟨n1, q1⟩
    · cases z
    · rcases look j _ h2 with ⟨_, z⟩ | ⟨n2, q2⟩
      · cases z
      · rw [hs i n1] at h3
        rw [hs j n2] at h4
        exact R.sep i j a xs ys q1 q2 h3 h4
  · obtain ⟨p1, xs, p2⟩ := R.pin a e
    have n0 := h0 xs p2
    rw [hs 0 n0, wipeD_out n0]
    exact ⟨p1, xs, p2⟩
theorem Stp.trans' {S1 H1 S H S' H' : Hp} {σ τ : L2.St} {δ1 δ δ2 δ3 : DE} (a : Stp S1 H1 S H σ δ1 δ) (b : Stp S H S' H' τ δ2 δ3) (ho : ∀ b, Own τ δ2 b → Own σ δ1 b) (hk : ∀ (i : Nat) xs, δ3[i]? = some (.ow xs) → ∃ ys, δ1[i]? = some (.ow ys)) : Stp S1 H1 S' H' σ δ1 δ3 where
  s := a.s.trans b.s
  out := fun x o h => by
    obtain ⟨o', h'⟩ := a.dom x o h
    exact (b.out x o' h').trans (a.out x o h)
  keep := fun x o h nt n => b.keep x o (a.keep x o h nt n) nt fun q => n (ho x q)
  dom := fun x o h => by
    obtain ⟨o', h'⟩ := a.dom x o h
    exact b.dom x o' h'
  kind := hk
  tb := fun t => b.tb (a.tb t)
omit [TabSet] in
/-- a turn, and all -/
def cRun (g : MG) (tf : MT) (f : M) (vs : List Nat) : List D → DE → Option (List D × DE)
  | [], δ => some ([], δ)
  | d :: ds, δ => match g d δ with
    | some δ1 => match tf δ1 with
      | some (true, δ2) => match f δ2 with
        | some (y, δ3) => match cRun g tf f vs ds (wipeD δ3 vs) with
          | some (ys, δ4) => some (y :: ys, δ4)
          | none => none
        | none => none
      | some (false, δ2) => cRun g tf f vs ds (wipeD δ2 vs)
      | none => none
    | none => none
omit [TabSet] in
def lComp (it : MA) (g : MG) (tf : MT) (f : M) (vs : List Nat) : MA := fun δ => match it δ with
  | some (ds, δ1) => if noOwn vs δ1 = true ∧ ds.length ≤ 100000 then match cRun g tf f vs ds (wipeD δ1 vs) with
      | some (ys, δ2) => some (ys, mergeD δ1 δ2 vs)
      | none => none
    else none
  | none => none
omit [TabSet] in
def tTrue : MT := fun δ => some (true, δ)
theorem ts_nil : PTs X [] (ST X.K F tTrue) := ⟨fun pins s σ H Q I hw => by
  obtain ⟨S, δ, k, δ', R, hf, q⟩ := hw
  cases hf
  exact pts_nil.run pins s σ H Q I (q S H Stp.refl R)⟩
theorem ts_one {c : Expr} (h : PT X c (ST X.K F tf)) : PTs X [c] (ST X.K F tf) := pts_one h
theorem cRun_len {g : MG} {tf : MT} {f : M} {vs : List Nat} : ∀ {ds : List D} {δ δ' : DE} {ys : List D}, cRun g tf f vs ds δ = some (ys, δ') → ys.length ≤ ds.length
  | [], δ, δ', ys, h => by cases h; exact Nat.le_refl _
  | d :: ds, δ, δ', ys, h => by
    simp only [cRun] at h
    split at h
    · split at h
      · split at h
        · split at h
          · rename_i e
            cases h
            have := cRun_len e
            simp only [List.length_cons]
            omega
          · cases h
        · cases h
      · have := cRun_len h
        simp only [List.length_cons]
        omega
      · cases h
    · cases h
theorem wipe_eq {σ τ : L2.St} {vs : List Nat} (hl : τ.length = σ.length) (h : ∀ j, j ∉ vs → τ[j]? = σ[j]?) : wipe τ vs = wipe σ vs := by
  have win : ∀ {ρ : L2.St} {i : Nat} {us : List Nat}, i ∈ us → i < ρ.length → (wipe ρ us)[i]? = some none := by
    intro ρ i us
    induction us with
    | nil => intro h; cases h
    | cons v us ih =>
      intro hm hi
      unfold wipe
      by_cases e : v = i
      · subst e
        rw [List.getElem?_set_self (by rw [wipe_length]; exact hi)]
      · rw [List.getElem?_set_ne e]
        exact ih ((List.mem_cons.mp hm).resolve_left fun z => e z.symm) hi
  apply List.ext_getElem?
  intro i
  by_cases hi : i ∈ vs
  · by_cases hlt : i < σ.length
    · rw [win hi hlt, win hi (by rw [hl]; exact hlt)]
    · rw [List.getElem?_eq_none (by rw [wipe_length]; omega), List.getElem?_eq_none (by rw [wipe_length]; omega)]
  · rw [wipe_out hi, wipe_out hi, h i hi]
theorem wipe_ow {δ : DE} {vs : List Nat} {j : Nat} {xs : Ob} (e : (wipeD δ vs)[j]? = some (.ow xs)) : j ∉ vs ∧ δ[j]? = some (.ow xs) := by
  by_cases hj : j ∈ vs
  · have hlt : j < δ.length := by
      have := (List.getElem?_eq_some_iff.mp e).1
      rwa [wipeD_len] at this
    rw [wipeD_in hlt hj] at e; cases e
  · rw [wipeD_out hj] at e
    exact ⟨hj, e⟩
/-- an object that is nobody's changes -/
theorem RSt.free {K : PySem.W.Frag} {S H : Hp} {σ : L2.St} {δ : DE} (R : RSt K F S H σ δ) {p : Addr} {us ws : List V} (hS : S p = none) (hp : H p = some (.lst us)) (hn : ¬ Own σ δ p) (h0 : F.H0 p = none) (hio : F.io ≠ some p) : RSt K F S (upd H p (.lst ws)) σ δ := by
  refine ⟨fun b u e => ?_, fun b u e nt n => ?_, fun b u e => ?_, fun t => ⟨tabs_lst (R.tb0 t).1 hp, (R.tb0 t).2⟩, R.s0, R.out, fun b e => ?_, R.len, fun i x s h1 h2 => ?_, R.sep, R.pin⟩
  · rw [upd_ne (fun z => by rw [z, hS] at e; cases e)]; exact R.sub b u e
  · rw [upd_ne (fun z => by rw [z, h0] at e; cases e)]; exact R.base b u e nt n
  · rw [upd_ne (fun z => by rw [z, h0] at e; cases e)]; exact R.dom0 b u e
  · rw [upd_ne (fun z => hio (by rw [← z]; exact e))]; exact R.iop b e
  · have q := R.slot i x s h1 h2
    cases s with
    | no => trivial
    | sh d => exact q
    | scr ns => exact q
    | ow xs =>
      obtain ⟨a, vs, e, e1, e2, e3, e4⟩ := q
      exact ⟨a, vs, e, e1, e2, by rw [upd_ne (fun z => hn ⟨i, xs, h2, by rw [h1, e, z]⟩)]; exact e3, e4⟩
/-- the reading of a comprehension -/
theorem lc_read {K : PySem.W.Frag} {it : MA} {gg : MG} {vs : List Nat} {S : Hp} {δ δ' : DE} {ds : List D} {σ : L2.St} {H : Hp} {Q : VK} (R : RSt K F S H σ δ) (hf : lComp it gg tf f vs δ = some (ds, δ'))
    (q : ∀ a us S' H', Stp S H S' H' σ δ δ' → RSt K F S' H' σ δ' → H a = none → S' a = none → H' a = some (.lst us) → DqAll S' us ds → Q (.ref a) H') : tLc (SI K F it) (SG K F vs gg) (ST K F tf) (SE K F f) vs σ H Q := by
  unfold lComp at hf
  cases h1 : it δ with
  | none => rw [h1] at hf; cases hf
  | some p =>
    obtain ⟨zs, δ1⟩ := p
    rw [h1] at hf
    simp only at hf
    split at hf
    · rename_i hno
      obtain ⟨hno, hz⟩ := hno
      split at hf
      · rename_i ys δ2 hrun
        cases hf
        refine ⟨S, δ, zs, δ1, R, h1, fun J S1 H1 s1 R1 hJ => fun Dl hD => ?_⟩
        obtain ⟨R1', s1', n1⟩ := lay_fresh (o := .lst []) R1 hD
        have hH : H Dl = none := by
          cases hz : H Dl with
          | none => rfl
          | some o =>
            obtain ⟨o', q'⟩ := s1.dom Dl o hz
            rw [hD] at q'; cases q'
        obtain ⟨z1, z2⟩ := R1.frz hD
        have nownD : ¬ Own σ δ1 Dl := fun o => by
          obtain ⟨us, q', _⟩ := R1.own_in o
          rw [hD] at q'; cases q'
        -- between the turns
        refine ⟨fun i m H' => m = zs.length - i ∧ i ≤ zs.length ∧ ∃ S' δi acc done, RSt K F S' H' (wipe σ vs) δi ∧ Stp S1 H1 S' H' σ δ1 δi ∧ (∀ (j : Nat) xs, δi[j]? = some (.ow xs) → j ∉ vs) ∧ S' Dl = none ∧ H' Dl = some (.lst acc) ∧ DqAll S' acc done ∧ done.length ≤ i ∧
          ∃ rest, cRun gg tf f vs (zs.drop i) δi = some (rest, δ2) ∧ done ++ rest = ds, ⟨zs.length, by omega, Nat.zero_le _, S1, wipeD δ1 vs, [], [], ?_, ?_, ?_, n1, upd_same, .nil, Nat.zero_le _, ds, hrun, rfl⟩, ?_⟩
        · exact R1'.wipe (wipe_length σ vs) (fun j hj => wipe_out hj) fun xs e => noOwn_of hno e
        · refine ⟨s1'.s, s1'.out, s1'.keep, s1'.dom, fun i xs e => ?_, s1'.tb⟩
          by_cases hi : i ∈ vs
          · have hlt : i < δ1.length := by
              have := (List.getElem?_eq_some_iff.mp e).1
              rwa [wipeD_len] at this
            rw [wipeD_in hlt hi] at e; cases e
          · rw [wipeD_out hi] at e; exact ⟨xs, e⟩
        · intro j xs e hj
          have hlt : j < δ1.length := by
            have := (List.getElem?_eq_some_iff.mp e).1
            rwa [wipeD_len] at this
          rw [wipeD_in hlt hj] at e; cases e
        · rintro i m H' ⟨rfl, hi, S', δi, acc, done, Ri, si, noi, ni, hDi, da, hlen, rest, hr, hdone⟩
          have ownD : ∀ {τ : L2.St} {δx : DE} {b : Addr}, (∀ j, j ∉ vs → τ[j]? = σ[j]?) → (∀ (j : Nat) xs, δx[j]? = some (.ow xs) → (∃ ys, δi[j]? = some (.ow ys)) ∧ j ∉ vs) → Own τ δx b → Own σ δ1 b := fun {τ δx b} hτ hx o => by
            obtain ⟨j, xs, o1, o2⟩ := o
            obtain ⟨⟨ys, e1⟩, nj⟩ := hx j xs o1
            obtain ⟨ws, e2⟩ := si.kind j ys e1
            rw [hτ j nj] at o2
            exact ⟨j, ws, e2, o2⟩
          by_cases hlt : i < zs.length
          · refine .inr ⟨hJ.go i S' H' si.s Ri.sub hlt, fun H'' => ∃ m', m' < zs.length - i ∧ (m' = zs.length - (i + 1) ∧ i + 1 ≤ zs.length ∧ ∃ S' δi acc done, RSt K F S' H'' (wipe σ vs) δi ∧ Stp S1 H1 S' H'' σ δ1 δi ∧ (∀ (j : Nat) xs, δi[j]? = some (.ow xs) → j ∉ vs) ∧ S' Dl = none ∧ H'' Dl = some (.lst acc) ∧ DqAll S' acc done ∧ done.length ≤ i + 1 ∧
              ∃ rest, cRun gg tf f vs (zs.drop (i + 1)) δi = some (rest, δ2) ∧ done ++ rest = ds), fun H'' h => h, fun x H3 hy => ?_⟩
            obtain ⟨S3, g3, d3⟩ := hJ.yld i S' H' x H3 zs[i] si.s Ri.sub hy (List.getElem?_eq_getElem hlt)
            rw [List.drop_eq_getElem_cons hlt] at hr
            simp only [cRun] at hr
            split at hr
            · rename_i δa ga
              have R3 := Ri.grow g3
              have h3 : H3 Dl = some (.lst acc) := g3.h Dl _ hDi nt_lst
              have n3 : S3 Dl = none := nt_none (g3.out Dl _ hDi) ni R3.sub h3 (by intro _ z; cases z)
              refine ⟨S3, δi, zs[i], δa, R3, d3, ga, fun τ Rt lτ cτ oτ => ?_⟩
              rw [wipe_length] at lτ
              have cτ' : ∀ j, j ∉ vs → τ[j]? = σ[j]? := fun j hj => (cτ j hj).trans (wipe_out hj)
              have kA : ∀ (j : Nat) xs, δa[j]? = some (.ow xs) → (∃ ys, δi[j]? = some (.ow ys)) ∧ j ∉ vs := fun j xs e => ⟨⟨xs, (oτ j xs e).1⟩, (oτ j xs e).2⟩
              have s13 : Stp S1 H1 S3 H3 σ δ1 δi := si.trans' (Stp.grow g3 (σ := wipe σ vs) (δ := δi)) (fun b o => ownD (fun j hj => wipe_out hj) (fun j xs e => ⟨⟨xs, e⟩, noi j xs e⟩) o) si.kind
              refine ⟨wipe_eq lτ cτ', ?_⟩
              have nD : ∀ {δx : DE}, (∀ (j : Nat) xs, δx[j]? = some (.ow xs) → (∃ ys, δi[j]? = some (.ow ys)) ∧ j ∉ vs) → ¬ Own τ δx Dl := fun hx o => nownD (ownD cτ' hx o)
              split at hr
              · rename_i δb tb
                refine ⟨S3, δa, true, δb, Rt, tb, fun S4 H4 s4 R4 => ?_⟩
                show ite (true = true) _ _
                rw [if_pos rfl]
                have kB : ∀ (j : Nat) xs, δb[j]? = some (.ow xs) → (∃ ys, δi[j]? = some (.ow ys)) ∧ j ∉ vs := fun j xs e => by
                  obtain ⟨ys, e2⟩ := s4.kind j xs e
                  exact kA j ys e2
                have h4 : H4 Dl = some (.lst acc) := s4.keep Dl _ h3 nt_lst (nD kA)
                have n4 : S4 Dl = none := nt_none (s4.out Dl _ h3) n3 R4.sub h4 (by intro _ z; cases z)
                have s14 : Stp S1 H1 S4 H4 σ δ1 δb := s13.trans' s4 (fun b o => ownD cτ' kA o) fun j xs e => by
                  obtain ⟨⟨ys, e2⟩, _⟩ := kB j xs e
                  exact si.kind j ys e2
                split at hr
                · rename_i y δc tc
                  refine ⟨S4, δb, y, δc, R4, tc, fun v S5 H5 s5 R5 d5 => ?_⟩
                  have kC : ∀ (j : Nat) xs, δc[j]? = some (.ow xs) → (∃ ys, δi[j]? = some (.ow ys)) ∧ j ∉ vs := fun j xs e => by
                    obtain ⟨ys, e2⟩ := s5.kind j xs e
                    exact kB j ys e2
                  have h5 : H5 Dl = some (.lst acc) := s5.keep Dl _ h4 nt_lst (nD kB)
                  have n5 : S5 Dl = none := nt_none (s5.out Dl _ h4) n4 R5.sub h5 (by intro _ z; cases z)
                  have s15 : Stp S1 H1 S5 H5 σ δ1 δc := s14.trans' s5 (fun b o => ownD cτ' kB o) fun j xs e => by
                    obtain ⟨⟨ys, e2⟩, _⟩ := kC j xs e
                    exact si.kind j ys e2
                  split at hr
                  · rename_i ys δd tr
                    cases hr
                    have dacc : DqAll S5 acc done := dqa_ext (g3.s.trans (s4.s.trans s5.s)) da
                    have lacc := dqa_len dacc
                    refine ⟨acc, h5, Evl.sz_lt (by omega), zs.length - (i + 1), by omega, rfl, hlt, S5, wipeD δc vs, acc ++ [v], done ++ [y], ?_, ?_, ?_, n5, upd_same, dqa_app dacc (.cons d5 .nil), by rw [List.length_append]; simp only [List.length_singleton]; omega, ys, tr, by rw [← hdone, List.append_assoc]; rfl⟩
                    · exact (R5.free n5 h5 (nD kC) z1 z2).wipe (by rw [wipe_length, lτ]) (fun j hj => (wipe_out hj).trans (cτ' j hj).symm) fun xs e => (kC 0 xs e).2
                    · refine ⟨s15.s, s15.out, fun b o e nt n => ?_, fun b o e => ?_, fun j xs e => ?_, fun t => ⟨tabs_lst (s15.tb t).1 h5, (s15.tb t).2⟩⟩
                      · rw [upd_ne (fun z => by rw [z, hD] at e; cases e)]
                        exact s15.keep b o e nt n
                      · rw [upd_ne (fun z => by rw [z, hD] at e; cases e)]
                        exact s15.dom b o e
                      · obtain ⟨_, e2⟩ := wipe_ow e
                        exact s15.kind j xs e2
                    · exact fun j xs e => (wipe_ow e).1
                  · cases hr
                · cases hr
              · rename_i δb tb
                refine ⟨S3, δa, false, δb, Rt, tb, fun S4 H4 s4 R4 => ?_⟩
                show ite (false = true) _ _
                rw [if_neg Bool.false_ne_true]
                have kB : ∀ (j : Nat) xs, δb[j]? = some (.ow xs) → (∃ ys, δi[j]? = some (.ow ys)) ∧ j ∉ vs := fun j xs e => by
                  obtain ⟨ys, e2⟩ := s4.kind j xs e
                  exact kA j ys e2
                have h4 : H4 Dl = some (.lst acc) := s4.keep Dl _ h3 nt_lst (nD kA)
                have n4 : S4 Dl = none := nt_none (s4.out Dl _ h3) n3 R4.sub h4 (by intro _ z; cases z)
                have s14 : Stp S1 H1 S4 H4 σ δ1 δb := s13.trans' s4 (fun b o => ownD cτ' kA o) fun j xs e => by
                  obtain ⟨⟨ys, e2⟩, _⟩ := kB j xs e
                  exact si.kind j ys e2
                refine ⟨zs.length - (i + 1), by omega, rfl, hlt, S4, wipeD δb vs, acc, done, ?_, ?_, ?_, n4, h4, dqa_ext (g3.s.trans s4.s) da, by omega, rest, hr, hdone⟩
                · exact R4.wipe (by rw [wipe_length, lτ]) (fun j hj => (wipe_out hj).trans (cτ' j hj).symm) fun xs e => (kB 0 xs e).2
                · refine ⟨s14.s, s14.out, s14.keep, s14.dom, fun j xs e => ?_, s14.tb⟩
                  obtain ⟨_, e2⟩ := wipe_ow e
                  exact s14.kind j xs e2
                · exact fun j xs e => (wipe_ow e).1
              · cases hr
            · cases hr
          · refine .inl ⟨hJ.stop i S' H' si.s Ri.sub (by omega), ?_⟩
            rw [List.drop_eq_nil_of_le (by omega)] at hr
            cases hr
            rw [List.append_nil] at hdone
            subst hdone
            have hl1 : δ2.length = δ1.length := by
              rw [← Ri.len, wipe_length, R1.len]
            have look : ∀ (j : Nat) s, (mergeD δ1 δ2 vs)[j]? = some s → (j ∈ vs ∧ δ1[j]? = some s) ∨ (j ∉ vs ∧ δ2[j]? = some s) := fun j s e => by
              have hlt : j < δ2.length := by
                have := (List.getElem?_eq_some_iff.mp e).1
                rwa [mergeD_len] at this
              by_cases hj : j ∈ vs
              · rw [mergeD_in hlt (by omega) hj] at e
                exact .inl ⟨hj, e⟩
              · rw [mergeD_out hj] at e
                exact .inr ⟨hj, e⟩
            refine q Dl acc S' H' ?_ ?_ hH ni hDi da
            · have sm : Stp S1 H1 S' H' σ δ1 (mergeD δ1 δ2 vs) := ⟨si.s, si.out, si.keep, si.dom, fun j xs e => by
                rcases look j _ e with ⟨hj, e2⟩ | ⟨hj, e2⟩
                · exact ⟨xs, e2⟩
                · exact si.kind j xs e2, si.tb⟩
              exact s1.trans sm
            · refine ⟨Ri.sub, Ri.base, Ri.dom0, Ri.tb0, Ri.s0, Ri.out, Ri.iop, by rw [mergeD_len, hl1, R1.len], fun j x s e1 e2 => ?_, fun j k a xs ys e1 e2 e3 e4 => ?_, fun a e => ?_⟩
              · rcases look j s e2 with ⟨hj, e3⟩ | ⟨hj, e3⟩
                · have q1 := R1.slot j x s e1 e3
                  cases s with
                  | no => trivial
                  | sh d =>
                    obtain ⟨v, w1, w2⟩ := q1
                    exact ⟨v, w1, dq_ext si.s w2⟩
                  | scr ns =>
                    obtain ⟨b, w1, w2⟩ := q1
                    exact ⟨b, w1, Evl.ex_l si.s w2⟩
                  | ow xs => exact absurd hj (noOwn_of hno e3)
                · exact Ri.slot j x s (by rw [wipe_out hj]; exact e1) e3
              · rcases look j _ e1 with ⟨hj, z⟩ | ⟨hj, f1⟩
                · exact absurd hj (noOwn_of hno z)
                · rcases look k _ e2 with ⟨hk, z⟩ | ⟨hk, f2⟩
                  · exact absurd hk (noOwn_of hno z)
                  · exact Ri.sep j k a xs ys f1 f2 (by rw [wipe_out hj]; exact e3) (by rw [wipe_out hk]; exact e4)
              · obtain ⟨p1, xs, p2⟩ := Ri.pin a e
                have n0 := noi 0 xs p2
                rw [wipe_out n0] at p1
                exact ⟨p1, xs, by rw [mergeD_out n0]; exact p2⟩
      · cases hf
    · cases hf
theorem e_lc' {own : List (Str × Nat)} {it : MA} {gg : MG} {elt iter : Expr} {ifs : List Expr} {scope : Scope} (hc : X.calm = true) (hN : X.N.Nodup) (hi : PI X tg iter (SI X.K F it)) (ok : BlkOk X.N X.env.scope scope own)
    (hg : ∀ (s : Shared) (H : Hp) (C : Addr) (cl : List (Str × Addr)) (fp : List Addr), PG (X.blk s H scope (compEnvC scope cl C X.env) fp) tg (SG X.K F (own.map (·.2)) gg)) (ht : ∀ (s : Shared) (H : Hp) (C : Addr) (cl : List (Str × Addr)) (fp : List Addr), PTs (X.blk s H scope (compEnvC scope cl C X.env) fp) ifs (ST X.K F tf))
    (he : ∀ (s : Shared) (H : Hp) (C : Addr) (cl : List (Str × Addr)) (fp : List Addr), PE (X.blk s H scope (compEnvC scope cl C X.env) fp) elt (SE X.K F f)) (hs : ∀ x, foldedSetIterable iter X.env x = pure x := by intro _; rfl) :
    PE X (.ListComp elt [⟨tg, iter, ifs, 0⟩] scope pos) (SF X.K F (lComp it gg tf f (own.map (·.2)))) :=
  pf_of fun S δ d δ' σ H Q R hf q => ⟨_, pe_lc hc hN hi ok hg ht he hs, lc_read R hf q⟩
end
end Pd

/-! Calls, statements, defs. -/
namespace Pd
open PySem PySem.Spec PyProof.Rows L2
open Evl (Ex)
variable [TabSet]
/-- what a def does: hands back a datum, or raises an error of a class of the text (perhaps with one int of its own) -/
inductive Res where
  | ret (d : D)
  | exc (c : Str) (p : Option (Str × Int))
abbrev MF := List D → Option Res
def ExcAt (mg : Str → Option Value) (E : XK) (S H : Hp) (c : Str) : Option (Str × Int) → Prop
  | none => ∀ S' H' cv, Grow S H S' H' → mg c = some cv → E cv none H'
  | some (a, i) => ∀ S' H' cv dd, Grow S H S' H' → mg c = some cv → H dd = none → H' dd = some (.xd [(a, .int i)]) → E cv (some dd) H'
def spF (mg : Str → Option Value) (m : MF) : Sp := fun vs H Q E => ∃ S ds r, Ex S H ∧ DqAll S vs ds ∧ m ds = some r ∧ match r with
  | .ret d => ∀ v S' H', Grow S H S' H' → Dq S' v d → Q v H'
  | .exc c p => ExcAt mg E S H c p
/-- a def whose first argument is a list that it changes -/
abbrev MC := List D → List D → Option (D × List D)
def spC (m : MC) : Sp := fun vs H Q _ => ∃ S a ws xs us ds d xs', vs = .ref a :: us ∧ Ex S H ∧ S a = none ∧ H a = some (.lst ws) ∧ DqAll S ws xs ∧ DqAll S us ds ∧ m xs ds = some (d, xs') ∧
  ∀ v S' H' ws', Ex S S' → Ex S' H' → (∀ b o, H b = some o → nt (S' b) = nt (S b)) → (∀ b o, H b = some o → (∀ ps, o ≠ .tbl ps) → b ≠ a → H' b = some o) → (∀ b o, H b = some o → ∃ o', H' b = some o') → (tabs S H → tabs S' H') → H' a = some (.lst ws') → DqAll S' ws' xs' → Dq S' v d → Q v H'
/-- a def of the text stands and keeps its promise -/
structure DefOk (P : Program) (w : World) (K : PySem.W.Frag) (mg : Str → Option Value) (base : Heap) (x : Str) (k : Nat) (sp : Sp) : Prop where
  ex : ∃ (f : Addr) (fd : FuncData) (ps : List Str), FnOk P w K mg base (L2.CX P w) k f fd ps sp ∧ mg x = some (.ref f) ∧ PySem.W.keepIn K (.ref f) = true ∧ Binds K fd ps []
theorem DefOk.mono {P : Program} {w : World} {K : PySem.W.Frag} {mg : Str → Option Value} {base : Heap} {x : Str} {j k : Nat} {sp : Sp} (h : DefOk P w K mg base x j sp) (l : j ≤ k) : DefOk P w K mg base x k sp :=
  let ⟨f, fd, ps, a, b, c, d⟩ := h.ex
  ⟨⟨f, fd, ps, a.mono l, b, c, d⟩⟩
section
variable {X : Cx} {F : Fr} {e a b c tg : Expr} {es : List Expr} {pos p : Pos} {f g h : M} {tf : MT} {fa : MA} {x : Str} {k : Nat}
omit [TabSet] in
def fCall (m : MF) (fa : MA) : M := fun δ => match fa δ with
  | some (ds, δ') => match m ds with
    | some (.ret d) => some (d, δ')
    | _ => none
  | none => none
theorem e_call {m : MF} (D0 : DefOk X.prog X.w X.K X.mg X.base x k (spF X.mg m)) (hr : Room k X.A) (ha : PA X (e :: es) (SA X.K F fa)) (hg : Gl X x := by rfl) (hdb : (x == ("__debug__" : Str)) = false := by decide)
    (he : starEach (e :: es) X.env = (false, eval e X.env) :: starEach es X.env := by rfl) (hpl : (backTo pos (starEach es X.env)).any (·.1) = false := by rfl) : PE X (.Call (.Name x p) (e :: es) [] pos) (SE X.K F (fCall m fa)) := by
  obtain ⟨fn, fd, ps, FO, hm, hk, hb⟩ := D0.ex
  refine pe_of fun S δ d δ' σ H Q R hf q => ⟨_, pe_call FO hr hg hm hk hb .nil passL ha hdb he hpl, ?_⟩
  unfold fCall at hf
  split at hf
  · rename_i ds δ1 h1
    split at hf
    · rename_i d0 h2
      cases hf
      refine ⟨S, δ, ds, _, R, h1, fun vs S1 H1 s1 R1 d1 => ?_⟩
      refine ⟨S1, ds, _, R1.sub, by rw [List.append_nil]; exact d1, h2, fun v S2 H2 g2 d2 => q v S2 H2 (s1.trans (Stp.grow g2)) (R1.grow g2) d2⟩
    · cases hf
  · cases hf
theorem e_call0 {m : MF} (D0 : DefOk X.prog X.w X.K X.mg X.base x k (spF X.mg m)) (hr : Room k X.A) (hg : Gl X x := by rfl) (hdb : (x == ("__debug__" : Str)) = false := by decide) : PE X (.Call (.Name x p) [] [] pos) (SE X.K F (fCall m aNil)) := by
  obtain ⟨fn, fd, ps, FO, hm, hk, hb⟩ := D0.ex
  refine pe_of fun S δ d δ' σ H Q R hf q => ⟨_, pe_call0 FO hr hg hm hk hb .nil passL hdb, ?_⟩
  unfold fCall aNil at hf
  simp only at hf
  split at hf
  · rename_i d0 h2
    cases hf
    exact ⟨S, [], _, R.sub, .nil, h2, fun v S2 H2 g2 d2 => q v S2 H2 (Stp.grow g2) (R.grow g2) d2⟩
  · cases hf
omit [TabSet] in
/-- the slot holds a list of its own -/
def isOw (δ : DE) (i : Nat) : Bool := match δ[i]? with
  | some (.ow _) => true
  | _ => false
theorem isOw_of {δ : DE} {i : Nat} (h : isOw δ i = true) : ∃ xs, δ[i]? = some (.ow xs) := by
  unfold isOw at h
  split at h
  · rename_i xs e
    exact ⟨xs, e⟩
  · cases h
omit [TabSet] in
/-- .. a list -/
def isLst (δ : DE) (i : Nat) : Bool := match δ[i]? with
  | some (.ow (.lst _)) => true
  | _ => false
theorem isLst_of {δ : DE} {i : Nat} (h : isLst δ i = true) : ∃ xs, δ[i]? = some (.ow (.lst xs)) := by
  unfold isLst at h
  split at h
  · rename_i xs e
    exact ⟨xs, e⟩
  · cases h
omit [TabSet] in
/-- the first argument: a list of one's own, lent -/
def fCallC (i : Nat) (m : MC) (fa : MA) : M := fun δ => if isOw δ i = true then match fa δ with
    | some (ds, δ1) => match δ1[i]? with
      | some (.ow (.lst xs)) => match m xs ds with
        | some (d, xs') => some (d, δ1.set i (.ow xs'))
        | none => none
      | _ => none
    | none => none
  else none
theorem RSt.lent {K : PySem.W.Frag} {S H S' H' : Hp} {σ : L2.St} {δ : DE} (R : RSt K F S H σ δ) {a : Addr} {i : Nat} {xs : Ob} {ys : List D} {ws : List V} (hd : δ[i]? = some (.ow xs)) (hs : σ[i]? = some (some (.ref a))) (exS : Ex S S') (sub : Ex S' H') (out : ∀ b o, H b = some o → nt (S' b) = nt (S b))
    (keep : ∀ b o, H b = some o → (∀ ps, o ≠ .tbl ps) → b ≠ a → H' b = some o) (dom : ∀ b o, H b = some o → ∃ o', H' b = some o') (tb : tabs S H → tabs S' H') (ha : H' a = some (.lst ws)) (dw : DqAll S' ws ys) : RSt K F S' H' σ (δ.set i (.ow ys)) ∧ Stp S H S' H' σ δ (δ.set i (.ow ys)) := by
  obtain ⟨a', vs, e, e1, e2, e3, e4⟩ := R.slot i _ _ hs hd
  have e' : V.ref a = V.ref a' := Option.some.inj e
  cases e'
  have hl : i < δ.length := (List.getElem?_eq_some_iff.mp hd).1
  have look : ∀ (m : Nat) us, (δ.set i (.ow ys))[m]? = some (.ow us) → ∃ us', δ[m]? = some (.ow us') := fun m us g => by
    by_cases hm : i = m
    · subst hm; exact ⟨xs, hd⟩
    · rw [List.getElem?_set_ne hm] at g; exact ⟨us, g⟩
  refine ⟨⟨sub, fun b o h nt n => ?_, fun b o h => ?_, fun t => tb (R.tb0 t), R.s0.trans exS, fun b o h => ?_, fun b h => ?_, by rw [List.length_set]; exact R.len, fun j x s g1 g2 => ?_, fun j k b zs zs' g1 g2 g3 g4 => ?_, fun b h => ?_⟩, ⟨exS, out, fun b o h nt n => ?_, dom, fun j us g => look j us g, tb⟩⟩
  · refine keep b o (R.base b o h nt n) nt fun z => ?_
    subst z
    rcases e2 with z | z
    · rw [z] at h; cases h
    · exact n z
  · obtain ⟨o', h'⟩ := R.dom0 b o h
    exact dom b o' h'
  · obtain ⟨o', h'⟩ := R.dom0 b o h
    exact (out b o' h').trans (R.out b o h)
  · by_cases hb : b = a
    · subst hb; exact ⟨_, ha⟩
    · obtain ⟨o', h'⟩ := R.iop b h
      exact dom b o' h'
  · by_cases hj : i = j
    · subst hj
      rw [hs] at g1; cases g1
      rw [List.getElem?_set_self hl] at g2; cases g2
      exact ⟨a, .lst ws, rfl, nt_none (out a _ e3) e1 sub ha (by intro _ z; cases z), e2, ha, ob_lst dw⟩
    · rw [List.getElem?_set_ne hj] at g2
      have q := R.slot j x s g1 g2
      cases s with
      | no => trivial
      | sh d =>
        obtain ⟨v, w1, w2⟩ := q
        exact ⟨v, w1, dq_ext exS w2⟩
      | scr ns =>
        obtain ⟨b, w1, w2⟩ := q
        exact ⟨b, w1, Evl.ex_l exS w2⟩
      | ow zs =>
        obtain ⟨b, us, w0, w1, w2, w3, w4⟩ := q
        have hb : b ≠ a := fun z => by
          subst z
          rw [w0] at g1
          exact hj (R.sep i j b xs zs hd g2 hs g1)
        exact ⟨b, us, w0, nt_none (out b _ w3) w1 sub (keep b _ w3 (ob_nt w4) hb) (ob_ntup w4), w2, keep b _ w3 (ob_nt w4) hb, ob_ext exS w4⟩
  · obtain ⟨u1, q1⟩ := look j _ g1
    obtain ⟨u2, q2⟩ := look k _ g2
    exact R.sep j k b u1 u2 q1 q2 g3 g4
  · obtain ⟨p1, us, p2⟩ := R.pin b h
    refine ⟨p1, ?_⟩
    by_cases hi : i = 0
    · subst hi
      exact ⟨.lst ys, List.getElem?_set_self hl⟩
    · rw [List.getElem?_set_ne hi]
      exact ⟨us, p2⟩
  · exact keep b o h nt fun z => n ⟨i, xs, hd, by rw [z]; exact hs⟩
theorem ob_addr {K : PySem.W.Frag} {S H : Hp} {σ : L2.St} {δ : DE} {i : Nat} {ob : Ob} (R : RSt K F S H σ δ) (hd : δ[i]? = some (.ow ob)) : ∃ a o, σ[i]? = some (some (.ref a)) ∧ S a = none ∧ H a = some o ∧ ObOk S o ob := by
  have hl : i < σ.length := by rw [R.len]; exact (List.getElem?_eq_some_iff.mp hd).1
  obtain ⟨a, o, e, e1, e2, e3, e4⟩ := R.slot i _ _ (List.getElem?_eq_getElem hl) hd
  exact ⟨a, o, by rw [List.getElem?_eq_getElem hl, e], e1, e3, e4⟩
theorem ow_addr {K : PySem.W.Frag} {S H : Hp} {σ : L2.St} {δ : DE} {i : Nat} {xs : List D} (R : RSt K F S H σ δ) (hd : δ[i]? = some (.ow (.lst xs))) : ∃ a vs, σ[i]? = some (some (.ref a)) ∧ S a = none ∧ H a = some (.lst vs) ∧ DqAll S vs xs := by
  obtain ⟨a, o, e, e1, e3, vs, rfl, e4⟩ := ob_addr R hd
  exact ⟨a, vs, e, e1, e3, e4⟩
theorem e_callC {m : MC} {i : Nat} {y : Str} {py : Pos} (D0 : DefOk X.prog X.w X.K X.mg X.base x k (spC m)) (hr : Room k X.A) (ha : PA X es (SA X.K F fa)) (hN : X.N[i]? = some y := by rfl) (hv : Vis X.env.scope y := by first | exact Or.inl rfl | exact Or.inr (Or.inl rfl) | exact Or.inr (Or.inr rfl)) (hg : Gl X x := by rfl) (hdb : (x == ("__debug__" : Str)) = false := by decide)
    (hdy : (y == ("__debug__" : Str)) = false := by decide) (hcy : (y == ("__classdict__" : Str)) = false := by decide)
    (he : starEach (.Name y py :: es) X.env = (false, eval (.Name y py) X.env) :: starEach es X.env := by rfl) (hpl : (backTo pos (starEach es X.env)).any (·.1) = false := by rfl) : PE X (.Call (.Name x p) (.Name y py :: es) [] pos) (SE X.K F (fCallC i m fa)) := by
  obtain ⟨fn, fd, ps, FO, hm, hk, hb⟩ := D0.ex
  refine pe_of fun S δ d δ' σ H Q R hf q => ⟨_, pe_call FO hr hg hm hk hb .nil passL (pa_cons (pe_var hN hv hdy hcy) ha he) hdb he hpl, ?_⟩
  unfold fCallC at hf
  split at hf
  · rename_i ho
    obtain ⟨zs, hz⟩ := isOw_of ho
    obtain ⟨a0, _, ea0, _⟩ := ob_addr R hz
    split at hf
    · rename_i ds δ1 h1
      split at hf
      · rename_i xs h2
        split at hf
        · rename_i d0 xs' h3
          cases hf
          refine ⟨.ref a0, ea0, S, δ, ds, δ1, R, h1, fun us S1 H1 s1 R1 d1 => ?_⟩
          obtain ⟨a, vs, w1, w2, w3, w4⟩ := ow_addr R1 h2
          rw [ea0] at w1
          cases w1
          refine ⟨S1, a0, vs, xs, us, ds, _, xs', by rw [List.append_nil], R1.sub, w2, w3, w4, d1, h3, fun v S2 H2 ws x1 x2 x3 x4 x8 x9 x5 x6 x7 => ?_⟩
          obtain ⟨R2, s2⟩ := R1.lent h2 ea0 x1 x2 x3 x4 x8 x9 x5 x6
          exact q v S2 H2 (s1.trans s2) R2 x7
        · cases hf
      · cases hf
    · cases hf
  · cases hf

/-! ### statements -/
inductive Out where
  | nx (δ : DE)
  | rt (d : D) (δ : DE)
  | bk (δ : DE)
  | ct (δ : DE)
  | ex (c : Str) (p : Option (Str × Int))
abbrev MS := DE → Option Out
def ExcW (mg : Str → Option Value) (F : Fr) (W : WX) (H : Hp) (c : Str) : Option (Str × Int) → L2.St → Prop
  | none, σ => ∀ cv, mg c = some cv → W cv none σ H
  | some (a, i), σ => ∀ cv dd, mg c = some cv → F.H0 dd = none → H dd = some (.xd [(a, .int i)]) → W cv (some dd) σ H
def OutP (K : PySem.W.Frag) (mg : Str → Option Value) (F : Fr) (W : WX) (Z : Ends) (S : Hp) : Out → Prop
  | .nx δ' => ∀ σ' S' H', Ex S S' → RSt K F S' H' σ' δ' → Z.nx σ' H'
  | .rt d δ' => ∀ v σ' S' H', Ex S S' → RSt K F S' H' σ' δ' → Dq S' v d → Z.rt v H'
  | .bk δ' => ∀ σ' S' H', Ex S S' → RSt K F S' H' σ' δ' → Z.bk σ' H'
  | .ct δ' => ∀ σ' S' H', Ex S S' → RSt K F S' H' σ' δ' → Z.ct σ' H'
  | .ex c p => ∀ σ' S' H' δ', Ex S S' → RSt K F S' H' σ' δ' → ExcW mg F W H' c p σ'
theorem out_ext {K : PySem.W.Frag} {mg : Str → Option Value} {W : WX} {S S1 : Hp} {o : Out} {Z : Ends} (x1 : Ex S S1) (q : OutP K mg F W Z S o) : OutP K mg F W Z S1 o := by
  cases o with
  | nx δ2 => exact fun σ2 S2 H2 x2 R2 => q σ2 S2 H2 (x1.trans x2) R2
  | rt d δ2 => exact fun v σ2 S2 H2 x2 R2 d2 => q v σ2 S2 H2 (x1.trans x2) R2 d2
  | bk δ2 => exact fun σ2 S2 H2 x2 R2 => q σ2 S2 H2 (x1.trans x2) R2
  | ct δ2 => exact fun σ2 S2 H2 x2 R2 => q σ2 S2 H2 (x1.trans x2) R2
  | ex c p => exact fun σ2 S2 H2 δ2 x2 R2 => q σ2 S2 H2 δ2 (x1.trans x2) R2
def SS (K : PySem.W.Frag) (mg : Str → Option Value) (F : Fr) (W : WX) (f : MS) : TS := fun Z σ H => ∃ S δ o, RSt K F S H σ δ ∧ f δ = some o ∧ OutP K mg F W Z S o
variable {W : WX} {fs gs : MS} {st : Stmt} {rest : List Stmt}
theorem ps_of {t : TS} (hp : PS X st t) (w : ∀ Z σ H, SS X.K X.mg F W fs Z σ H → t Z σ H) : PS X st (SS X.K X.mg F W fs) := ⟨fun pins s σ H Z I hw => hp.run pins s σ H Z I (w Z σ H hw)⟩
theorem pss_of {t : TS} {sts : List Stmt} (hp : PSs X sts t) (w : ∀ Z σ H, SS X.K X.mg F W fs Z σ H → t Z σ H) : PSs X sts (SS X.K X.mg F W fs) := ⟨fun pins s σ H Z I hw => hp.run pins s σ H Z I (w Z σ H hw)⟩
omit [TabSet] in
def sNil : MS := fun δ => some (.nx δ)
theorem s_nil : PSs X [] (SS X.K X.mg F W sNil) := pss_of pss_nil fun Z σ H hw => by
  obtain ⟨S, δ, o, R, hf, q⟩ := hw
  cases hf
  exact q σ S H (Ex.refl S) R
omit [TabSet] in
def sSeq (fs gs : MS) : MS := fun δ => match fs δ with
  | some (.nx δ') => gs δ'
  | o => o
theorem s_cons (h1 : PS X st (SS X.K X.mg F W fs)) (h2 : PSs X rest (SS X.K X.mg F W gs)) : PSs X (st :: rest) (SS X.K X.mg F W (sSeq fs gs)) := pss_of (pss_cons h1 h2) fun Z σ H hw => by
  obtain ⟨S, δ, o, R, hf, q⟩ := hw
  unfold sSeq at hf
  cases h1 : fs δ with
  | none => rw [h1] at hf; cases hf
  | some o1 =>
    rw [h1] at hf
    cases o1 with
    | nx δ1 =>
      exact ⟨S, δ, _, R, h1, fun σ1 S1 H1 x1 R1 => ⟨S1, δ1, o, R1, hf, out_ext x1 q⟩⟩
    | _ =>
      cases hf
      exact ⟨S, δ, _, R, h1, q⟩
theorem s_one (h1 : PS X st (SS X.K X.mg F W fs)) : PSs X [st] (SS X.K X.mg F W (sSeq fs sNil)) := s_cons h1 s_nil
omit [TabSet] in
/-- name = e -/
def sSet (i : Nat) (f : M) : MS := fun δ => match f δ with
  | some (d, δ1) => if free0 i δ1 = true then some (.nx (δ1.set i (.sh d))) else none
  | none => none
theorem s_set {i : Nat} {pos' : Pos} (hN : X.N.Nodup) (he : PE X e (SE X.K F f)) (hi : X.N[i]? = some x := by rfl) (hx : Loc X.env.scope x := by first | exact Or.inl rfl | exact Or.inr rfl) (hs : swapsWith e (some (.Name x pos')) pos.line X.env = pure false := by rfl)
    (hf : X.fn x = true ∨ X.env.scope.names.lookup x = some .local := by first | exact .inl rfl | exact .inr rfl) : PS X (.Assign [.Name x pos'] e pos) (SS X.K X.mg F W (sSet i f)) := ps_of (ps_set hN hi hx he hs hf) fun Z σ H hw => by
  obtain ⟨S, δ, o, R, hf, q⟩ := hw
  unfold sSet at hf
  split at hf
  · rename_i d δ1 h1
    split at hf
    · rename_i h0
      cases hf
      exact ⟨S, δ, d, δ1, R, h1, fun v S1 H1 s1 R1 d1 => q _ S1 H1 s1.s (R1.set_sh d1 i (free0_of h0))⟩
    · cases hf
  · cases hf
omit [TabSet] in
/-- name = a new list, kept as one's own -/
def sSetO (i : Nat) (ff : MA) : MS := fun δ => match ff δ with
  | some (ds, δ1) => if free0 i δ1 = true then some (.nx (δ1.set i (.ow ds))) else none
  | none => none
theorem own_new {K : PySem.W.Frag} {S H S1 H1 : Hp} {σ : L2.St} {δ δ1 : DE} {a : Addr} (R : RSt K F S H σ δ) (s1 : Stp S H S1 H1 σ δ δ1) (hH : H a = none) : F.H0 a = none ∧ F.io ≠ some a ∧ ¬ Own σ δ1 a := by
  obtain ⟨z1, z2⟩ := R.frz hH
  refine ⟨z1, z2, fun o => ?_⟩
  obtain ⟨us, q, _⟩ := R.own_in (s1.own o)
  rw [hH] at q; cases q
theorem s_setO {i : Nat} {pos' : Pos} {ff : MA} (hN : X.N.Nodup) (he : PE X e (SF X.K F ff)) (hi : X.N[i]? = some x := by rfl) (hx : Loc X.env.scope x := by first | exact Or.inl rfl | exact Or.inr rfl) (hs : swapsWith e (some (.Name x pos')) pos.line X.env = pure false := by rfl)
    (hf : X.fn x = true ∨ X.env.scope.names.lookup x = some .local := by first | exact .inl rfl | exact .inr rfl) : PS X (.Assign [.Name x pos'] e pos) (SS X.K X.mg F W (sSetO i ff)) := ps_of (ps_set hN hi hx he hs hf) fun Z σ H hw => by
  obtain ⟨S, δ, o, R, hf, q⟩ := hw
  unfold sSetO at hf
  split at hf
  · rename_i d δ1 h1
    split at hf
    · rename_i h0
      cases hf
      refine ⟨S, δ, d, δ1, R, h1, fun a vs S1 H1 s1 R1 n0 n1 e1 d1 => ?_⟩
      obtain ⟨z1, z2, z3⟩ := own_new R s1 n0
      exact q _ S1 H1 s1.s (R1.set_ow n1 (.inl z1) e1 (ob_lst d1) z3 i (free0_of h0))
    · cases hf
  · cases hf
/-- name = [.. for ..] -/
theorem s_lc {i : Nat} {py : Pos} {own : List (Str × Nat)} {it : MA} {gg : MG} {elt iter : Expr} {ifs : List Expr} {scope : Scope} {spos : Pos} (hc : X.calm = true) (hN : X.N.Nodup) (hi : PI X tg iter (SI X.K F it)) (ok : BlkOk X.N X.env.scope scope own)
    (hg : ∀ (s : Shared) (H : Hp) (C : Addr) (cl : List (Str × Addr)) (fp : List Addr), PG (X.blk s H scope (compEnvC scope cl C X.env) fp) tg (SG X.K F (own.map (·.2)) gg)) (ht : ∀ (s : Shared) (H : Hp) (C : Addr) (cl : List (Str × Addr)) (fp : List Addr), PTs (X.blk s H scope (compEnvC scope cl C X.env) fp) ifs (ST X.K F tf))
    (he : ∀ (s : Shared) (H : Hp) (C : Addr) (cl : List (Str × Addr)) (fp : List Addr), PE (X.blk s H scope (compEnvC scope cl C X.env) fp) elt (SE X.K F f)) (hy : X.N[i]? = some x := by rfl) (hyl : X.env.scope.names.lookup x = some .local := by rfl)
    (hsw : swapsWith (.ListComp elt [⟨tg, iter, ifs, 0⟩] scope pos) (some (.Name x py)) spos.line X.env = pure true := by exact sw_true rfl rfl rfl (by decide +kernel)) (hs : ∀ x, foldedSetIterable iter X.env x = pure x := by intro _; rfl) :
    PS X (.Assign [.Name x py] (.ListComp elt [⟨tg, iter, ifs, 0⟩] scope pos) spos) (SS X.K X.mg F W (sSet i (fList (lComp it gg tf f (own.map (·.2)))))) :=
  ps_of (ps_setLc hc hN hy hyl hsw hi ok hg ht he hs) fun Z σ H hw => by
    obtain ⟨S, δ, o, R, hf, q⟩ := hw
    unfold sSet fList at hf
    cases h1 : lComp it gg tf f (own.map (·.2)) δ with
    | none => rw [h1] at hf; cases hf
    | some p =>
      obtain ⟨ds, δ1⟩ := p
      rw [h1] at hf
      simp only at hf
      split at hf
      · rename_i h0
        cases hf
        refine lc_read R h1 fun a us S1 H1 s1 R1 n0 n1 e1 d1 => ?_
        obtain ⟨R2, s2⟩ := share_fresh R s1 R1 n0 n1 e1
        exact q _ _ H1 s2.s (R2.set_sh (.lst upd_same (dqa_ext (Ex.new n1) d1)) i (free0_of h0))
      · cases hf
theorem s_lcO {i : Nat} {py : Pos} {own : List (Str × Nat)} {it : MA} {gg : MG} {elt iter : Expr} {ifs : List Expr} {scope : Scope} {spos : Pos} (hc : X.calm = true) (hN : X.N.Nodup) (hi : PI X tg iter (SI X.K F it)) (ok : BlkOk X.N X.env.scope scope own)
    (hg : ∀ (s : Shared) (H : Hp) (C : Addr) (cl : List (Str × Addr)) (fp : List Addr), PG (X.blk s H scope (compEnvC scope cl C X.env) fp) tg (SG X.K F (own.map (·.2)) gg)) (ht : ∀ (s : Shared) (H : Hp) (C : Addr) (cl : List (Str × Addr)) (fp : List Addr), PTs (X.blk s H scope (compEnvC scope cl C X.env) fp) ifs (ST X.K F tf))
    (he : ∀ (s : Shared) (H : Hp) (C : Addr) (cl : List (Str × Addr)) (fp : List Addr), PE (X.blk s H scope (compEnvC scope cl C X.env) fp) elt (SE X.K F f)) (hy : X.N[i]? = some x := by rfl) (hyl : X.env.scope.names.lookup x = some .local := by rfl)
    (hsw : swapsWith (.ListComp elt [⟨tg, iter, ifs, 0⟩] scope pos) (some (.Name x py)) spos.line X.env = pure true := by exact sw_true rfl rfl rfl (by decide +kernel)) (hs : ∀ x, foldedSetIterable iter X.env x = pure x := by intro _; rfl) :
    PS X (.Assign [.Name x py] (.ListComp elt [⟨tg, iter, ifs, 0⟩] scope pos) spos) (SS X.K X.mg F W (sSetO i (lComp it gg tf f (own.map (·.2))))) :=
  ps_of (ps_setLc hc hN hy hyl hsw hi ok hg ht he hs) fun Z σ H hw => by
    obtain ⟨S, δ, o, R, hf, q⟩ := hw
    unfold sSetO at hf
    split at hf
    · rename_i d δ1 h1
      split at hf
      · rename_i h0
        cases hf
        refine lc_read R h1 fun a us S1 H1 s1 R1 n0 n1 e1 d1 => ?_
        obtain ⟨z1, z2, z3⟩ := own_new R s1 n0
        exact q _ S1 H1 s1.s (R1.set_ow n1 (.inl z1) e1 (ob_lst d1) z3 i (free0_of h0))
      · cases hf
    · cases hf
omit [TabSet] in
/-- a, b = e1, e2 -/
def sPar (i j : Nat) (fa : MA) : MS := fun δ => match fa δ with
  | some ([d, d'], δ1) => if free0 i δ1 = true ∧ free0 j δ1 = true then some (.nx ((δ1.set i (.sh d)).set j (.sh d'))) else none
  | _ => none
theorem free0_set {i j : Nat} {δ : DE} {d : D} (h : free0 j δ = true) : free0 j (δ.set i (.sh d)) = true := by
  cases j with
  | succ j => rfl
  | zero =>
    have h' := free0_of h rfl
    unfold free0
    split
    · rename_i xs e
      exact absurd (set_ow e).1 (h' _)
    · rfl
theorem s_par {i j : Nat} {y : Str} {px py pt : Pos} {kt k2 pt2} (hc : X.calm = true) (hN : X.N.Nodup) (ha : PA X [a, b] (SA X.K F fa)) (hw : swappedStores [.Tuple [.Name x px, .Name y py] kt pt] (.Tuple [a, b] k2 pt2) X.env = pure (some [x, y])) (hi : X.N[i]? = some x := by rfl) (hj : X.N[j]? = some y := by rfl) (hij : i ≠ j := by decide)
    (hx : X.env.scope.names.lookup x = some .local := by rfl) (hy : X.env.scope.names.lookup y = some .local := by rfl) (hs : swapsWithSole [.Tuple [.Name x px, .Name y py] kt pt] (.Tuple [a, b] k2 pt2) pos.line X.env = pure false := by rfl) :
    PS X (.Assign [.Tuple [.Name x px, .Name y py] kt pt] (.Tuple [a, b] k2 pt2) pos) (SS X.K X.mg F W (sPar i j fa)) := ps_of (ps_par hc hN hi hj hij hx hy ha hw hs) fun Z σ H hw => by
  obtain ⟨S, δ, o, R, hf, q⟩ := hw
  unfold sPar at hf
  split at hf
  · rename_i d d' δ1 h1
    split at hf
    · rename_i h0
      cases hf
      refine ⟨S, δ, _, _, R, h1, fun vs S1 H1 s1 R1 d1 => ?_⟩
      cases d1 with
      | cons e1 t1 =>
        cases t1 with
        | cons e2 t2 =>
          cases t2
          exact ⟨_, _, rfl, q _ S1 H1 s1.s ((R1.set_sh e1 i (free0_of h0.1)).set_sh e2 j (free0_of (free0_set h0.2)))⟩
    · cases hf
  · cases hf
omit [TabSet] in
/-- targets that are names, in a tuple -/
def sAsg (g : MG) (f : M) : MS := fun δ => match f δ with
  | some (d, δ1) => match g d δ1 with
    | some δ2 => some (.nx δ2)
    | none => none
  | none => none
theorem s_asg {vs : List Nat} {gg : MG} (he : PE X e (SE X.K F f)) (hg : PG X tg (SG X.K F vs gg)) (hs : swapsWithSole [tg] e pos.line X.env = pure false := by rfl) (hw : swappedStores [tg] e X.env = pure none := by rfl) (h1 : (assignEach [tg] X.env).map (·.2) = [assign tg X.env] := by rfl) :
    PS X (.Assign [tg] e pos) (SS X.K X.mg F W (sAsg gg f)) := ps_of (ps_asg he hg hs hw h1) fun Z σ H hw => by
  obtain ⟨S, δ, o, R, hf, q⟩ := hw
  unfold sAsg at hf
  split at hf
  · rename_i d δ1 k1
    split at hf
    · rename_i δ2 k2
      cases hf
      exact ⟨S, δ, d, δ1, R, k1, fun v S1 H1 s1 R1 d1 => ⟨S1, δ1, d, δ2, R1, d1, k2, fun σ' R' _ _ _ => q σ' S1 H1 s1.s R'⟩⟩
    · cases hf
  · cases hf
omit [TabSet] in
/-- if -/
def sIf (tf : MT) (fs gs : MS) : MS := fun δ => match tf δ with
  | some (true, δ1) => fs δ1
  | some (false, δ1) => gs δ1
  | none => none
theorem s_if {sa sb : List Stmt} (hc : PT X c (ST X.K F tf)) (ha : PSs X sa (SS X.K X.mg F W fs)) (hb : PSs X sb (SS X.K X.mg F W gs)) : PS X (.If c sa sb pos) (SS X.K X.mg F W (sIf tf fs gs)) := ps_of (ps_if hc ha hb) fun Z σ H hw => by
  obtain ⟨S, δ, o, R, hf, q⟩ := hw
  unfold sIf at hf
  cases h1 : tf δ with
  | none => rw [h1] at hf; cases hf
  | some p =>
    obtain ⟨k1, δ1⟩ := p
    rw [h1] at hf
    refine ⟨S, δ, k1, δ1, R, h1, fun S1 H1 s1 R1 => ?_⟩
    cases k1 with
    | true => exact ⟨S1, δ1, o, R1, hf, out_ext s1.s q⟩
    | false => exact ⟨S1, δ1, o, R1, hf, out_ext s1.s q⟩
omit [TabSet] in
/-- return -/
def sRet (f : M) : MS := fun δ => match f δ with
  | some (d, δ1) => some (.rt d δ1)
  | none => none
theorem s_ret (he : PE X e (SE X.K F f)) : PS X (.Return (some e) pos) (SS X.K X.mg F W (sRet f)) := ps_of (ps_ret he) fun Z σ H hw => by
  obtain ⟨S, δ, o, R, hf, q⟩ := hw
  unfold sRet at hf
  split at hf
  · rename_i d δ1 h1
    cases hf
    exact ⟨S, δ, d, δ1, R, h1, fun v S1 H1 s1 R1 d1 => q v σ S1 H1 s1.s R1 d1⟩
  · cases hf
omit [TabSet] in
/-- return of a list that was one's own -/
def sRetO (i : Nat) : MS := fun δ => match δ[i]? with
  | some (.ow (.lst xs)) => if i ≠ 0 then some (.rt (.list xs) (δ.set i (.sh (.list xs)))) else none
  | _ => none
theorem s_retO {i : Nat} {py : Pos} (hN : X.N[i]? = some x := by rfl) (hv : Vis X.env.scope x := by first | exact Or.inl rfl | exact Or.inr (Or.inl rfl) | exact Or.inr (Or.inr rfl)) (hd : (x == ("__debug__" : Str)) = false := by decide)
    (hcd : (x == ("__classdict__" : Str)) = false := by decide) : PS X (.Return (some (.Name x py)) pos) (SS X.K X.mg F W (sRetO i)) := ps_of (ps_ret (pe_var hN hv hd hcd)) fun Z σ H hw => by
  obtain ⟨S, δ, o, R, hf, q⟩ := hw
  unfold sRetO at hf
  split at hf
  · rename_i xs h1
    split at hf
    · rename_i h0
      cases hf
      obtain ⟨a, vs, S1, w1, w2, w3, rfl, w5, w6, R1⟩ := R.give h1 h0
      exact ⟨.ref a, w1, q _ σ _ H w3 R1 (.lst upd_same (dqa_ext w3 w5))⟩
    · cases hf
  · cases hf
omit [TabSet] in
def sRetN : MS := fun δ => some (.rt .none δ)
theorem s_retN : PS X (.Return none pos) (SS X.K X.mg F W sRetN) := ps_of ps_retN fun Z σ H hw => by
  obtain ⟨S, δ, o, R, hf, q⟩ := hw
  cases hf
  exact q .non σ S H (Ex.refl S) R .non
omit [TabSet] in
/-- a list of one's own is given to all: no statement, a way to read on -/
def sPass : MS := fun δ => some (.nx δ)
theorem s_pass : PS X (.Pass pos) (SS X.K X.mg F W sPass) := ps_of ps_pass fun Z σ H hw => by
  obtain ⟨S, δ, o, R, hf, q⟩ := hw
  cases hf
  exact q σ S H (Ex.refl S) R
omit [TabSet] in
def sBrk : MS := fun δ => some (.bk δ)
theorem s_brk : PS X (.Break pos) (SS X.K X.mg F W sBrk) := ps_of ps_break fun Z σ H hw => by
  obtain ⟨S, δ, o, R, hf, q⟩ := hw
  cases hf
  exact q σ S H (Ex.refl S) R
omit [TabSet] in
def sCnt : MS := fun δ => some (.ct δ)
theorem s_cnt : PS X (.Continue pos) (SS X.K X.mg F W sCnt) := ps_of ps_continue fun Z σ H hw => by
  obtain ⟨S, δ, o, R, hf, q⟩ := hw
  cases hf
  exact q σ S H (Ex.refl S) R
omit [TabSet] in
/-- a call that may raise, its value dropped -/
def sCall (m : MF) (fa : MA) : MS := fun δ => match fa δ with
  | some (ds, δ') => match m ds with
    | some (.ret _) => some (.nx δ')
    | some (.exc c p) => some (.ex c p)
    | none => none
  | none => none
theorem s_call {m : MF} (tk : Takes X W) (D0 : DefOk X.prog X.w X.K X.mg X.base x k (spF X.mg m)) (hr : Room k X.A) (ha : PA X (e :: es) (SA X.K F fa)) (hg : Gl X x := by rfl) (hdb : (x == ("__debug__" : Str)) = false := by decide)
    (he : starEach (e :: es) X.env = (false, eval e X.env) :: starEach es X.env := by rfl) (hpl : (backTo pos (starEach es X.env)).any (·.1) = false := by rfl) {pos2 : Pos} (hs : swapsWith (.Call (.Name x p) (e :: es) [] pos) none pos2.line X.env = pure false := by rfl) :
    PS X (.Expr (.Call (.Name x p) (e :: es) [] pos) pos2) (SS X.K X.mg F W (sCall m fa)) := by
  obtain ⟨fn, fd, ps, FO, hm, hk, hb⟩ := D0.ex
  refine ps_of (ps_expr (pe_callS FO hr hg hm hk hb (fun σ => passAt tk σ) ha hdb he hpl) hs) fun Z σ H hw => ?_
  obtain ⟨S, δ, o, R, hf, q⟩ := hw
  unfold sCall at hf
  split at hf
  · rename_i ds δ1 h1
    refine ⟨S, δ, ds, δ1, R, h1, fun vs S1 H1 s1 R1 d1 => ?_⟩
    split at hf
    · rename_i d h2
      cases hf
      exact ⟨S1, ds, _, R1.sub, d1, h2, fun v S2 H2 g2 _ => q σ S2 H2 (s1.s.trans g2.s) (R1.grow g2)⟩
    · rename_i c p h2
      cases hf
      refine ⟨S1, ds, _, R1.sub, d1, h2, ?_⟩
      cases p with
      | none => exact fun S2 H2 cv g2 hc => q σ S2 H2 _ (s1.s.trans g2.s) (R1.grow g2) cv hc
      | some p => exact fun S2 H2 cv dd g2 hc h0 hdd => q σ S2 H2 _ (s1.s.trans g2.s) (R1.grow g2) cv dd hc (R1.frz h0).1 hdd
    · cases hf
  · cases hf
/-- an error class of the text, over ValueError, without an __init__ of its own -/
structure ExcOk (K : PySem.W.Frag) (mg : Str → Option Value) (c : Str) : Prop where
  ex : ∃ C, mg c = some (.ref C) ∧ PySem.W.excIn K C [.type "ValueError", .type "Exception", .type "BaseException", .type "object"] "ValueError.__new__" = true ∧ PySem.W.keepIn K (.ref C) = true ∧
    PySem.W.subIn K (.ref C) (.type "BaseException") = some true ∧ PySem.W.typeIn K (.ref C) = some (.type "type")
omit [TabSet] in
def sRaise (c : Str) : MS := fun _ => some (.ex c none)
theorem s_raise {m : Str} {j : Nat} {p2 pos2 : Pos} (hc : X.calm = true) (tk : Takes X W) (E0 : ExcOk X.K X.mg x) (hg : Gl X x := by rfl) (hdb : (x == ("__debug__" : Str)) = false := by decide) :
    PS X (.Raise (some (.Call (.Name x p) [.Constant (.str m) j p2] [] pos)) none pos2) (SS X.K X.mg F W (sRaise x)) := by
  obtain ⟨C, h1, h2, h3, h4, h5⟩ := E0.ex
  refine ps_of (ps_raise hc tk (pmk_own PySem.F.excBase_ValueError h2 h1 h3 (raises_own h4 h5) hg hdb)) fun Z σ H hw => ?_
  obtain ⟨S, δ, o, R, hf, q⟩ := hw
  cases hf
  exact q σ S H δ (Ex.refl S) R _ h1

/-! ### lists of one's own, changed -/
omit [TabSet] in
/-- xs[i] = e -/
def sStO (i : Nat) (pf : PF) (f : M) : MS := fun δ => match f δ with
  | some (d, δ1) => match pf δ1 with
    | some (.int j) => match δ1[i]? with
      | some (.ow (.lst xs)) => match ixN xs.length j with
        | some k => some (.nx (δ1.set i (.ow (xs.set k d))))
        | none => none
      | _ => none
    | _ => none
  | none => none
variable {pf pg : PF}
/-- the targets that are places in a list of one's own -/
def SGh (K : PySem.W.Frag) (F : Fr) (g : MG) : TG := fun v σ H Q => ∃ S δ d δ', RSt K F S H σ δ ∧ Dq S v d ∧ g d δ = some δ' ∧ ∀ σ' S' H', Ex S S' → RSt K F S' H' σ' δ' → Q σ' H'
def SGhs (K : PySem.W.Frag) (F : Fr) (g : MGs) : TGs := fun v σ H Q => ∃ S δ d δ', RSt K F S H σ δ ∧ DqAll S v d ∧ g d δ = some δ' ∧ ∀ σ' S' H', Ex S S' → RSt K F S' H' σ' δ' → Q σ' H'
theorem pgh_of {gg : MG} {t : TG} (hp : PG X tg t) (w : ∀ v σ H Q, SGh X.K F gg v σ H Q → t v σ H Q) : PG X tg (SGh X.K F gg) := ⟨fun pins s σ H v u Q I r hw => hp.run pins s σ H v u Q I r (w v σ H Q hw)⟩
theorem pghs_of {gg : MGs} {t : TGs} (hp : PGs X es t) (w : ∀ v σ H Q, SGhs X.K F gg v σ H Q → t v σ H Q) : PGs X es (SGhs X.K F gg) := ⟨fun pins s σ H v u Q I r hw => hp.run pins s σ H v u Q I r (w v σ H Q hw)⟩
omit [TabSet] in
def gSubO (i : Nat) (pf : PF) : MG := fun d δ => match pf δ with
  | some (.int j) => match δ[i]? with
    | some (.ow (.lst xs)) => match ixN xs.length j with
      | some k => some (δ.set i (.ow (xs.set k d)))
      | none => none
    | _ => none
  | _ => none
theorem gh_sub {i : Nat} {py : Pos} (hb : PE X b (SP X.K F pf)) (hN : X.N[i]? = some x := by rfl) (hv : Vis X.env.scope x := by first | exact Or.inl rfl | exact Or.inr (Or.inl rfl) | exact Or.inr (Or.inr rfl)) (hd : (x == ("__debug__" : Str)) = false := by decide)
    (hcd : (x == ("__classdict__" : Str)) = false := by decide) (ha : ∀ v, assign (.Subscript (.Name x py) b pos) X.env v = (do
      let ov ← holding [v] (eval (.Name x py) X.env)
      let iv ← holding [v, ov] (eval b X.env)
      standAt pos
      holding [v, ov, iv] (setItem ov iv v)
      release [v, ov, iv] []) := by intro _; rfl) : PG X (.Subscript (.Name x py) b pos) (SGh X.K F (gSubO i pf)) :=
  pgh_of (pg_sub (pe_var hN hv hd hcd) hb set_list ha) fun v σ H Q hw => by
    obtain ⟨S, δ, d, δ', R, dv, hg, q⟩ := hw
    unfold gSubO at hg
    split at hg
    · rename_i j h1
      split at hg
      · rename_i xs h2
        split at hg
        · rename_i k h3
          cases hg
          obtain ⟨a, vs, w1, w2, w3, w4⟩ := ow_addr R h2
          refine ⟨.ref a, w1, S, δ, _, R, h1, fun u S1 H1 g1 d1 => ?_⟩
          have R1 := R.grow g1
          obtain ⟨a', vs', w1', w2', w3', w4'⟩ := ow_addr R1 h2
          rw [w1] at w1'
          cases w1'
          refine ⟨a, vs', j, k, rfl, dq_int d1, w3', by rw [dqa_len w4']; exact h3, ?_⟩
          exact q σ S1 _ g1.s (R1.mut h2 w1 (dqa_set (dq_ext g1.s dv) k w4'))
        · cases hg
      · cases hg
    · cases hg
theorem gh_of {vs : List Nat} {gg : MG} (h : PG X tg (SG X.K F vs gg)) : PG X tg (SGh X.K F gg) := pgh_of h fun v σ H Q hw => by
  obtain ⟨S, δ, d, δ', R, dv, hg, q⟩ := hw
  exact ⟨S, δ, d, δ', R, dv, hg, fun σ' R' _ _ _ => q σ' S H (Ex.refl S) R'⟩
theorem ghs_nil : PGs X [] (SGhs X.K F gsNil) := pghs_of pgs_nil fun us σ H Q hw => by
  obtain ⟨S, δ, d, δ', R, dv, hg, q⟩ := hw
  cases dv with
  | nil =>
    cases hg
    exact ⟨rfl, q σ S H (Ex.refl S) R⟩
  | cons _ _ => cases hg
theorem ghs_cons {gg : MG} {gs' : MGs} (h1 : PG X e (SGh X.K F gg)) (h2 : PGs X es (SGhs X.K F gs')) (hs : (assignEach (e :: es) X.env).map (·.2) = assign e X.env :: (assignEach es X.env).map (·.2) := by rfl) : PGs X (e :: es) (SGhs X.K F (gsCons gg gs')) :=
  pghs_of (pgs_cons h1 h2 hs) fun us σ H Q hw => by
    obtain ⟨S, δ, d, δ', R, dv, hg, q⟩ := hw
    cases dv with
    | nil => cases hg
    | cons a1 r1 =>
      simp only [gsCons] at hg
      split at hg
      · rename_i δ1 k1
        exact ⟨_, _, rfl, S, δ, _, δ1, R, a1, k1, fun σ1 S1 H1 x1 R1 => ⟨S1, δ1, _, δ', R1, dqa_ext x1 r1, hg, fun σ2 S2 H2 x2 R2 => q σ2 S2 H2 (x1.trans x2) R2⟩⟩
      · cases hg
theorem gh_tup {n k : Nat} {gs' : MGs} (hc : X.calm = true) (h : PGs X es (SGhs X.K F gs')) (hl : ∀ ds δ δ', gs' ds δ = some δ' → ds.length = n) (hn : (assignEach es X.env).length = n := by rfl) (hst : (assignEach es X.env).findIdx? (·.1) = none := by rfl) : PG X (.Tuple es k pos) (SGh X.K F (gT gs')) :=
  pgh_of (pg_tup hc h hn hst) fun v σ H Q hw => by
    obtain ⟨S, δ, d, δ', R, dv, hg, q⟩ := hw
    unfold gT at hg
    split at hg
    · obtain ⟨p1, v1, rfl, e1, d1⟩ := dq_tup dv
      exact ⟨p1, v1, rfl, SqT.of (R.sub _ _ e1), by rw [dqa_len d1]; exact hl _ _ _ hg, S, δ, _, δ', R, d1, hg, q⟩
    · cases hg
theorem s_asgh {gg : MG} (he : PE X e (SE X.K F f)) (hg : PG X tg (SGh X.K F gg)) (hs : swapsWithSole [tg] e pos.line X.env = pure false := by rfl) (hw : swappedStores [tg] e X.env = pure none := by rfl) (h1 : (assignEach [tg] X.env).map (·.2) = [assign tg X.env] := by rfl) :
    PS X (.Assign [tg] e pos) (SS X.K X.mg F W (sAsg gg f)) := ps_of (ps_asg he hg hs hw h1) fun Z σ H hw => by
  obtain ⟨S, δ, o, R, hf, q⟩ := hw
  unfold sAsg at hf
  split at hf
  · rename_i d δ1 k1
    split at hf
    · rename_i δ2 k2
      cases hf
      exact ⟨S, δ, d, δ1, R, k1, fun v S1 H1 s1 R1 d1 => ⟨S1, δ1, d, δ2, R1, d1, k2, fun σ' S2 H2 x2 R2 => q σ' S2 H2 (s1.s.trans x2) R2⟩⟩
    · cases hf
  · cases hf
omit [TabSet] in
/-- xs.append(e) -/
def sApp (i : Nat) (f : M) : MS := fun δ => if isLst δ i = true then match f δ with
    | some (d, δ1) => match δ1[i]? with
      | some (.ow (.lst xs)) => if xs.length < 100000 then some (.nx (δ1.set i (.ow (xs ++ [d])))) else none
      | _ => none
    | none => none
  else none
theorem s_app {i : Nat} {py apos pos2 : Pos} (ha : PE X a (SE X.K F f)) (hN : X.N[i]? = some x := by rfl) (hv : Vis X.env.scope x := by first | exact Or.inl rfl | exact Or.inr (Or.inl rfl) | exact Or.inr (Or.inr rfl)) (hd : (x == ("__debug__" : Str)) = false := by decide)
    (hcd : (x == ("__classdict__" : Str)) = false := by decide) (he : starEach (a :: []) X.env = (false, eval a X.env) :: starEach [] X.env := by rfl) (hbase : attributeBase (.Name x py) "append" X.env (eval (.Name x py) X.env) = eval (.Name x py) X.env := by rfl)
    (hfew : ((backTo pos (starEach (a :: []) X.env)).all (fun x => !x.1) && (backToKw pos (keywordEach [] X.env)).all (fun x => x.1.isSome)
      && decide ((a :: []).length + ([] : List Keyword).length + (if ([] : List Keyword).isEmpty then 0 else 1) < 30)) = true := by rfl) (hs : swapsWith (.Call (.Attribute (.Name x py) "append" apos) [a] [] pos) none pos2.line X.env = pure false := by rfl)
    (hline : (apos.endLine == pos.line) = true := by rfl) :
    PS X (.Expr (.Call (.Attribute (.Name x py) "append" apos) [a] [] pos) pos2) (SS X.K X.mg F W (sApp i f)) :=
  ps_of (ps_expr (pe_bm PySem.F.plainAttrs_list PySem.F.slot_list_append PySem.F.type_list_append mt_append (pe_var hN hv hd hcd) (pa_cons ha pa_nil he) (hbase := hbase) (hfew := hfew) (hline := hline) (hs := he)) hs) fun Z σ H hw => by
    obtain ⟨S, δ, o, R, hf, q⟩ := hw
    unfold sApp at hf
    split at hf
    · rename_i ho
      obtain ⟨zs, hz⟩ := isLst_of ho
      obtain ⟨a0, vs0, ea0, _, e0, _⟩ := ow_addr R hz
      split at hf
      · rename_i d δ1 h1
        split at hf
        · rename_i xs h2
          split at hf
          · rename_i hlen
            cases hf
            refine ⟨.ref a0, ea0, .inl ⟨rfl, _, SqL.of e0⟩, S, δ, d, δ1, R, h1, fun v S1 H1 s1 R1 d1 => ?_⟩
            obtain ⟨a1, vs, w1, w2, w3, w4⟩ := ow_addr R1 h2
            rw [ea0] at w1
            cases w1
            refine ⟨a0, vs, v, rfl, rfl, w3, Evl.sz_lt (by rw [dqa_len w4]; exact hlen), ?_⟩
            exact q σ S1 _ s1.s (R1.mut h2 ea0 (dqa_app w4 (.cons d1 .nil)))
          · cases hf
        · cases hf
      · cases hf
    · cases hf
omit [TabSet] in
/-- xs.pop(e) -/
def fPop (i : Nat) (f : M) : M := fun δ => if isLst δ i = true then match f δ with
    | some (.int j, δ1) => match δ1[i]? with
      | some (.ow (.lst xs)) => match ixN xs.length j with
        | some k => match xs[k]? with
          | some d => if small j = true ∧ xs.length ≤ 100000 then some (d, δ1.set i (.ow (xs.eraseIdx k))) else none
          | none => none
        | none => none
      | _ => none
    | _ => none
  else none
theorem e_pop {i : Nat} {py apos : Pos} (ha : PE X a (SE X.K F f)) (hN : X.N[i]? = some x := by rfl) (hv : Vis X.env.scope x := by first | exact Or.inl rfl | exact Or.inr (Or.inl rfl) | exact Or.inr (Or.inr rfl)) (hd : (x == ("__debug__" : Str)) = false := by decide)
    (hcd : (x == ("__classdict__" : Str)) = false := by decide) (he : starEach (a :: []) X.env = (false, eval a X.env) :: starEach [] X.env := by rfl) (hbase : attributeBase (.Name x py) "pop" X.env (eval (.Name x py) X.env) = eval (.Name x py) X.env := by rfl)
    (hfew : ((backTo pos (starEach (a :: []) X.env)).all (fun x => !x.1) && (backToKw pos (keywordEach [] X.env)).all (fun x => x.1.isSome)
      && decide ((a :: []).length + ([] : List Keyword).length + (if ([] : List Keyword).isEmpty then 0 else 1) < 30)) = true := by rfl) (hline : (apos.endLine == pos.line) = true := by rfl) :
    PE X (.Call (.Attribute (.Name x py) "pop" apos) [a] [] pos) (SE X.K F (fPop i f)) :=
  pe_of fun S δ d δ' σ H Q R hf q => ⟨_, pe_bm PySem.F.plainAttrs_list PySem.F.slot_list_pop PySem.F.type_list_pop mt_popAt (pe_var hN hv hd hcd) (pa_cons ha pa_nil he) (hbase := hbase) (hfew := hfew) (hline := hline) (hs := he), by
    unfold fPop at hf
    split at hf
    · rename_i ho
      obtain ⟨zs, hz⟩ := isLst_of ho
      obtain ⟨a0, vs0, ea0, _, e0, _⟩ := ow_addr R hz
      split at hf
      · rename_i j δ1 h1
        split at hf
        · rename_i xs h2
          split at hf
          · rename_i k h3
            split at hf
            · rename_i z h4
              split at hf
              · rename_i h5
                cases hf
                refine ⟨.ref a0, ea0, .inl ⟨rfl, _, SqL.of e0⟩, S, δ, _, δ1, R, h1, fun v S1 H1 s1 R1 d1 => ?_⟩
                obtain ⟨a1, vs, w1, w2, w3, w4⟩ := ow_addr R1 h2
                rw [ea0] at w1
                cases w1
                obtain ⟨k1, k2, k3, k4⟩ := ixN_seq h3
                obtain ⟨y, y1, y2⟩ := dqa_get' w4 h4
                have hlen := dqa_len w4
                refine ⟨a0, vs, j, k, y, rfl, by rw [dq_int d1], w3, by omega, by omega, by rw [hlen]; exact k1, y1, ?_⟩
                have R2 := R1.mut h2 ea0 (dqa_erase k w4)
                have hl : i < δ1.length := (List.getElem?_eq_some_iff.mp h2).1
                refine q y S1 _ (s1.trans ⟨Ex.refl S1, fun _ _ _ => rfl, fun b o hb nt nb => ?_, fun b o hb => ?_, fun m us g => ?_, fun t => ⟨tabs_lst t.1 w3, t.2⟩⟩) R2 y2
                · rw [upd_ne (fun z => nb ⟨i, xs, h2, by rw [z]; exact ea0⟩)]; exact hb
                · by_cases hba : b = a0
                  · subst hba; exact ⟨_, upd_same⟩
                  · exact ⟨o, by rw [upd_ne hba]; exact hb⟩
                · by_cases hm : i = m
                  · subst hm; exact ⟨xs, h2⟩
                  · rw [List.getElem?_set_ne hm] at g; exact ⟨us, g⟩
              · cases hf
            · cases hf
          · cases hf
        · cases hf
      · cases hf
    · cases hf⟩

/-! ### loops -/
omit [TabSet] in
def forRun (g : MG) (body : MS) : List D → DE → Option Out
  | [], δ => some (.nx δ)
  | d :: ds, δ => match g d δ with
    | some δ1 => match body δ1 with
      | some (.nx δ2) => forRun g body ds δ2
      | some (.ct δ2) => forRun g body ds δ2
      | some (.bk δ2) => some (.nx δ2)
      | o => o
    | none => none
omit [TabSet] in
def sFor (it : MA) (g : MG) (body : MS) : MS := fun δ => match it δ with
  | some (ds, δ1) => forRun g body ds δ1
  | none => none
theorem s_for {it : MA} {gg : MG} {vs : List Nat} {iter : Expr} {sb : List Stmt} (hp : PassesOwn (model X.prog X.w) X.A X.env X.xe) (hc : X.calm = true) (hi : PI X tg iter (SI X.K F it)) (hg : PG X tg (SG X.K F vs gg)) (hb : PSs X sb (SS X.K X.mg F W fs)) (hs : ∀ x, foldedSetIterable iter X.env x = pure x := by intro _; rfl) :
    PS X (.For tg iter sb [] pos) (SS X.K X.mg F W (sFor it gg fs)) := ps_of (ps_for hp hc hi hg hb hs) fun Z σ H hw => by
  obtain ⟨S, δ, o, R, hf, q⟩ := hw
  unfold sFor at hf
  split at hf
  · rename_i ds δ1 h1
    refine ⟨S, δ, ds, δ1, R, h1, fun J S1 H1 s1 R1 hJ => ?_⟩
    refine ⟨fun i m τ H' => m = ds.length - i ∧ i ≤ ds.length ∧ ∃ S' δi, Ex S1 S' ∧ RSt X.K F S' H' τ δi ∧ forRun gg fs (ds.drop i) δi = some o, ⟨ds.length, by omega, Nat.zero_le _, S1, δ1, Ex.refl S1, R1, hf⟩, ?_⟩
    rintro i m τ H' ⟨rfl, hi', S', δi, x1, Ri, hr⟩
    by_cases hlt : i < ds.length
    · refine .inr ⟨hJ.go i S' H' x1 Ri.sub hlt, fun σ2 H2 => ∃ m', m' < ds.length - i ∧ (m' = ds.length - (i + 1) ∧ i + 1 ≤ ds.length ∧ ∃ S' δi, Ex S1 S' ∧ RSt X.K F S' H2 σ2 δi ∧ forRun gg fs (ds.drop (i + 1)) δi = some o), fun σ2 H2 h => h, fun x H3 hy => ?_⟩
      obtain ⟨S3, g3, d3⟩ := hJ.yld i S' H' x H3 ds[i] x1 Ri.sub hy (List.getElem?_eq_getElem hlt)
      rw [List.drop_eq_getElem_cons hlt] at hr
      simp only [forRun] at hr
      split at hr
      · rename_i δa ga
        refine ⟨S3, δi, ds[i], δa, Ri.grow g3, d3, ga, fun τ2 Rt _ _ _ => ?_⟩
        have x3 : Ex S1 S3 := x1.trans g3.s
        split at hr
        · rename_i δb tb
          exact ⟨S3, δa, _, Rt, tb, fun σ4 S4 H4 x4 R4 => ⟨ds.length - (i + 1), by omega, rfl, hlt, S4, δb, x3.trans x4, R4, hr⟩⟩
        · rename_i δb tb
          exact ⟨S3, δa, _, Rt, tb, fun σ4 S4 H4 x4 R4 => ⟨ds.length - (i + 1), by omega, rfl, hlt, S4, δb, x3.trans x4, R4, hr⟩⟩
        · rename_i δb tb
          cases hr
          exact ⟨S3, δa, _, Rt, tb, fun σ4 S4 H4 x4 R4 => q σ4 S4 H4 (s1.s.trans (x3.trans x4)) R4⟩
        · rename_i n1 n2 n3
          refine ⟨S3, δa, o, Rt, hr, ?_⟩
          have q' := out_ext (s1.s.trans x3) q
          cases o with
          | nx δ2 => exact absurd hr (n1 δ2)
          | ct δ2 => exact absurd hr (n2 δ2)
          | bk δ2 => exact absurd hr (n3 δ2)
          | rt d δ2 => exact q'
          | ex c p => exact q'
      · cases hr
    · refine .inl ⟨hJ.stop i S' H' x1 Ri.sub (by omega), ?_⟩
      rw [List.drop_eq_nil_of_le (by omega)] at hr
      cases hr
      exact q τ S' H' (s1.s.trans x1) Ri
  · cases hf
omit [TabSet] in
def whRun (tf : MT) (body : MS) : Nat → DE → Option Out
  | 0, _ => none
  | n + 1, δ => match tf δ with
    | some (false, δ1) => some (.nx δ1)
    | some (true, δ1) => match body δ1 with
      | some (.nx δ2) => whRun tf body n δ2
      | some (.ct δ2) => whRun tf body n δ2
      | some (.bk δ2) => some (.nx δ2)
      | o => o
    | none => none
omit [TabSet] in
def sWhile (n : Nat) (tf : MT) (body : MS) : MS := whRun tf body n
theorem s_while {n : Nat} {sb : List Stmt} (hp : PassesOwn (model X.prog X.w) X.A X.env X.xe) (hc : PT X c (ST X.K F tf)) (hb : PSs X sb (SS X.K X.mg F W fs)) : PS X (.While c sb [] pos) (SS X.K X.mg F W (sWhile n tf fs)) := ps_of (ps_while hp hc hb) fun Z σ H hw => by
  obtain ⟨S, δ, o, R, hf, q⟩ := hw
  refine ⟨fun m τ H' => ∃ S' δi, Ex S S' ∧ RSt X.K F S' H' τ δi ∧ whRun tf fs m δi = some o, ⟨n, S, δ, Ex.refl S, R, hf⟩, ?_⟩
  rintro m τ H' ⟨S', δi, x1, Ri, hr⟩
  cases m with
  | zero => cases hr
  | succ m =>
    simp only [whRun] at hr
    split at hr
    · rename_i δ1 h1
      cases hr
      exact ⟨S', δi, false, δ1, Ri, h1, fun S2 H2 s2 R2 => q τ S2 H2 (x1.trans s2.s) R2⟩
    · rename_i δ1 h1
      refine ⟨S', δi, true, δ1, Ri, h1, fun S2 H2 s2 R2 => ?_⟩
      refine ⟨fun σ3 H3 => ∃ m', m' < m + 1 ∧ ∃ S' δi, Ex S S' ∧ RSt X.K F S' H3 σ3 δi ∧ whRun tf fs m' δi = some o, fun σ3 H3 h => h, ?_⟩
      have x2 : Ex S S2 := x1.trans s2.s
      split at hr
      · rename_i δb tb
        exact ⟨S2, δ1, _, R2, tb, fun σ4 S4 H4 x4 R4 => ⟨m, by omega, S4, δb, x2.trans x4, R4, hr⟩⟩
      · rename_i δb tb
        exact ⟨S2, δ1, _, R2, tb, fun σ4 S4 H4 x4 R4 => ⟨m, by omega, S4, δb, x2.trans x4, R4, hr⟩⟩
      · rename_i δb tb
        cases hr
        exact ⟨S2, δ1, _, R2, tb, fun σ4 S4 H4 x4 R4 => q σ4 S4 H4 (x2.trans x4) R4⟩
      · rename_i n1 n2 n3
        refine ⟨S2, δ1, o, R2, hr, ?_⟩
        have q' := out_ext x2 q
        cases o with
        | nx δ2 => exact absurd hr (n1 δ2)
        | ct δ2 => exact absurd hr (n2 δ2)
        | bk δ2 => exact absurd hr (n3 δ2)
        | rt d δ2 => exact q'
        | ex c p => exact q'
    · cases hr
end

/-! ### defs -/
omit [TabSet] in
def mOf (n p : Nat) (body : MS) : MF := fun ds => if ds.length = p then match body (ds.map .sh ++ List.replicate (n - p) .no) with
    | some (.rt d _) => some (.ret d)
    | some (.nx _) => some (.ret .none)
    | some (.ex c q) => some (.exc c q)
    | _ => none
  else none
omit [TabSet] in
def mOfC (n p : Nat) (body : MS) : MC := fun xs ds => if ds.length + 1 = p then match body (.ow xs :: (ds.map .sh ++ List.replicate (n - p) .no)) with
    | some (.rt d δ') => match δ'[0]? with
      | some (Slot.ow (.lst ys)) => some (d, ys)
      | _ => none
    | some (.nx δ') => match δ'[0]? with
      | some (Slot.ow (.lst ys)) => some (.none, ys)
      | _ => none
    | _ => none
  else none
section
variable {P : Program} {w : World} {K : PySem.W.Frag} {mg : Str → Option Value} {base : Heap} {x : Str} {st : Stmt} {f : Addr} {fd : FuncData} {N ps : List Str} {k : Nat} {body : MS}
theorem start_sh {F : Fr} {S H : Hp} {vs : List V} {ds : List D} {n : Nat} (hF : F = ⟨H, S, none⟩) (ex : Ex S H) (d : DqAll S vs ds) (hl : vs.length ≤ N.length) (hn : n = N.length - ds.length) : RSt K F S H (L2.start N vs) (ds.map .sh ++ List.replicate n .no) := by
  subst hF
  have l := dqa_len d
  have look : ∀ (i : Nat) s, (ds.map Slot.sh ++ List.replicate n .no)[i]? = some s → (∃ z, ds[i]? = some z ∧ s = .sh z) ∨ s = .no := fun i s e => by
    by_cases hi : i < ds.length
    · rw [List.getElem?_append_left (by rw [List.length_map]; exact hi), List.getElem?_map, List.getElem?_eq_getElem hi] at e
      exact .inl ⟨ds[i], List.getElem?_eq_getElem hi, (Option.some.inj e).symm⟩
    · rw [List.getElem?_append_right (by rw [List.length_map]; omega), List.getElem?_replicate] at e
      split at e
      · exact .inr (Option.some.inj e).symm
      · cases e
  refine ⟨ex, fun b o h _ _ => h, fun b o h => ⟨o, h⟩, fun t => t, Ex.refl S, fun b o h => rfl, fun b h => (by cases h), ?_, fun i v s h1 h2 => ?_, fun i j a xs ys h1 h2 h3 h4 => ?_, fun a h => (by cases h)⟩
  · unfold L2.start
    simp only [List.length_append, List.length_map, List.length_replicate]
    omega
  · rcases look i s h2 with ⟨z, e1, rfl⟩ | rfl
    · obtain ⟨v', e2, e3⟩ := dqa_get' d e1
      have hi : i < vs.length := (List.getElem?_eq_some_iff.mp e2).1
      unfold L2.start at h1
      rw [List.getElem?_append_left (by rw [List.length_map]; exact hi), List.getElem?_map, e2] at h1
      exact ⟨v', (Option.some.inj h1).symm, e3⟩
    · trivial
  · rcases look i _ h1 with ⟨z, _, e⟩ | e <;> cases e
theorem fn_pure (F0 : Fun K x x st f fd) (Sc : FnScope N ps (defScope st)) (hNp : ps.length ≤ N.length)
    (hb : ∀ (cdv : Value) (A : Around) (outer : List Env) (s : Shared) (H : Hp) (E : XK) (F : Fr), Room k (A.deeper (envOfC x (defScope st) s.heap.objs.size f cdv)) →
      PSs (cxOf (L2.CX P w) P w K mg base N x (defScope st) f cdv A outer s H E) (defBody st) (SS K mg F (fun cls d _ H => E cls d H) body)) : FnOk P w K mg base (L2.CX P w) (k + 1) f fd ps (spF mg (mOf N.length ps.length body)) := by
  refine F0.okX Sc (fun vs H Q E h => ?_) (fun cdv A outer s H vs Q E hr h => ?_)
  · obtain ⟨S, ds, r, ex, d, hm, _⟩ := h
    unfold mOf at hm
    split at hm
    · rename_i hl
      rw [dqa_len d, hl]
    · cases hm
  · obtain ⟨S, ds, r, ex, d, hm, q⟩ := h
    refine ⟨_, hb cdv A outer s H E ⟨H, S, none⟩ hr, ?_⟩
    unfold mOf at hm
    split at hm
    · rename_i hl
      have hvl := dqa_len d
      have R := start_sh (K := K) (N := N) (F := ⟨H, S, none⟩) (n := N.length - ps.length) rfl ex d (by omega) (by omega)
      have gr : ∀ {σ' : L2.St} {S' H' : Hp} {δ' : DE}, RSt K ⟨H, S, none⟩ S' H' σ' δ' → Grow S H S' H' := fun R' => ⟨R'.s0, fun b o e nt => R'.base b o e nt (by simp), R'.sub, R'.out, R'.dom0, R'.tb0⟩
      split at hm
      · rename_i dd δ' hbd
        cases hm
        exact ⟨S, _, _, R, hbd, fun v σ' S' H' _ R' dv => q v S' H' (gr R') dv⟩
      · rename_i δ' hbd
        cases hm
        exact ⟨S, _, _, R, hbd, fun σ' S' H' _ R' => q .non S' H' (gr R') .non⟩
      · rename_i c p hbd
        cases hm
        refine ⟨S, _, _, R, hbd, fun σ' S' H' δ' _ R' => ?_⟩
        cases p with
        | none => exact fun cv hc => q S' H' cv (gr R') hc
        | some p => exact fun cv dd hc h0 hd => q S' H' cv dd (gr R') hc h0 hd
      · cases hm
    · cases hm
theorem fn_cup (F0 : Fun K x x st f fd) (Sc : FnScope N ps (defScope st)) (hNp : ps.length ≤ N.length)
    (hb : ∀ (cdv : Value) (A : Around) (outer : List Env) (s : Shared) (H : Hp) (E : XK) (F : Fr), Room k (A.deeper (envOfC x (defScope st) s.heap.objs.size f cdv)) →
      PSs (cxOf (L2.CX P w) P w K mg base N x (defScope st) f cdv A outer s H E) (defBody st) (SS K mg F (fun cls d _ H => E cls d H) body)) : FnOk P w K mg base (L2.CX P w) (k + 1) f fd ps (spC (mOfC N.length ps.length body)) := by
  refine F0.okX Sc (fun vs H Q E h => ?_) (fun cdv A outer s H vs Q E hr h => ?_)
  · obtain ⟨S, a, ws, xs, us, ds, d, xs', rfl, ex, n1, e1, dw, du, hm, _⟩ := h
    unfold mOfC at hm
    split at hm
    · rename_i hl
      rw [List.length_cons, dqa_len du, hl]
    · cases hm
  · obtain ⟨S, a, ws, xs, us, ds, d, xs', rfl, ex, n1, e1, dw, du, hm, q⟩ := h
    refine ⟨_, hb cdv A outer s H E ⟨H, S, some a⟩ hr, ?_⟩
    unfold mOfC at hm
    split at hm
    · rename_i hl
      have hvl := dqa_len du
      have R : RSt K ⟨H, S, some a⟩ S H (L2.start N (.ref a :: us)) (.ow xs :: (ds.map .sh ++ List.replicate (N.length - ps.length) .no)) := by
        have look : ∀ (i : Nat) s, (Slot.ow xs :: (ds.map Slot.sh ++ List.replicate (N.length - ps.length) .no))[i]? = some s → (i = 0 ∧ s = .ow xs) ∨ (∃ j z, i = j + 1 ∧ ds[j]? = some z ∧ s = .sh z) ∨ s = .no := fun i s e => by
          cases i with
          | zero => exact .inl ⟨rfl, (Option.some.inj e).symm⟩
          | succ i =>
            rw [List.getElem?_cons_succ] at e
            by_cases hi : i < ds.length
            · rw [List.getElem?_append_left (by rw [List.length_map]; exact hi), List.getElem?_map, List.getElem?_eq_getElem hi] at e
              exact .inr (.inl ⟨i, ds[i], rfl, List.getElem?_eq_getElem hi, (Option.some.inj e).symm⟩)
            · rw [List.getElem?_append_right (by rw [List.length_map]; omega), List.getElem?_replicate] at e
              split at e
              · exact .inr (.inr (Option.some.inj e).symm)
              · cases e
        have s0 : (L2.start N (.ref a :: us))[0]? = some (some (.ref a)) := rfl
        refine ⟨ex, fun b o h _ _ => h, fun b o h => ⟨o, h⟩, fun t => t, Ex.refl S, fun b o h => rfl, fun b h => ?_, ?_, fun i v s h1 h2 => ?_, fun i j b zs ys h1 h2 h3 h4 => ?_, fun b h => ?_⟩
        · cases h
          exact ⟨_, e1⟩
        · unfold L2.start
          simp only [List.length_append, List.length_map, List.length_replicate, List.length_cons]
          omega
        · rcases look i s h2 with ⟨rfl, rfl⟩ | ⟨j, z, rfl, e2, rfl⟩ | rfl
          · rw [s0] at h1
            cases h1
            exact ⟨a, .lst ws, rfl, n1, .inr rfl, e1, ob_lst dw⟩
          · obtain ⟨v', e3, e4⟩ := dqa_get' du e2
            have hi : j < us.length := (List.getElem?_eq_some_iff.mp e3).1
            unfold L2.start at h1
            rw [List.getElem?_append_left (by rw [List.length_map, List.length_cons]; omega), List.getElem?_map, List.getElem?_cons_succ, e3] at h1
            exact ⟨v', (Option.some.inj h1).symm, e4⟩
          · trivial
        · rcases look i _ h1 with ⟨rfl, _⟩ | ⟨_, _, _, _, z⟩ | z
          · rcases look j _ h2 with ⟨rfl, _⟩ | ⟨_, _, _, _, z⟩ | z
            · rfl
            · cases z
            · cases z
          · cases z
          · cases z
        · cases h
          exact ⟨s0, xs, rfl⟩
      have fin : ∀ {σ' : L2.St} {S' H' : Hp} {δ' : DE} {v : V} {dd : D} {ys : List D}, RSt K ⟨H, S, some a⟩ S' H' σ' δ' → δ'[0]? = some (.ow ys) → dd = d → ys = xs' → Dq S' v dd → Q v H' := fun {σ' S' H' δ' v dd ys} R' e0 ed ey dv => by
        subst ed ey
        obtain ⟨a', vs, w1, w2, w3, w4⟩ := ow_addr R' e0
        obtain ⟨p1, _⟩ := R'.pin a rfl
        rw [p1] at w1
        cases w1
        exact q v S' H' vs R'.s0 R'.sub R'.out (fun b o hb nt n => R'.base b o hb nt (fun z => n (by cases z; rfl))) R'.dom0 R'.tb0 w3 w4 dv
      split at hm
      · rename_i dd δ' hbd
        split at hm
        · rename_i ys h0
          cases hm
          exact ⟨S, _, _, R, hbd, fun v σ' S' H' _ R' dv => fin R' h0 rfl rfl dv⟩
        · cases hm
      · rename_i δ' hbd
        split at hm
        · rename_i ys h0
          cases hm
          exact ⟨S, _, _, R, hbd, fun σ' S' H' _ R' => fin R' h0 rfl rfl .non⟩
        · cases hm
      · cases hm
    · cases hm
end
end Pd

/-! More rules; defs as hypotheses. -/
namespace Pd
open PySem PySem.Spec PyProof.Rows L2
open Evl (Ex)
variable [TabSet]
section
variable {P : Program} {w : World} {K : PySem.W.Frag} {mg : Str → Option Value} {base : Heap}
/-- what the top holds of a def -/
structure FunAt (K : PySem.W.Frag) (mg : Str → Option Value) (x : Str) (st : Stmt) (ps : List Str) : Prop where
  ex : ∃ (f : Addr) (fd : FuncData), Fun K x x st f fd ∧ mg x = some (.ref f) ∧ Binds K fd ps []
theorem def_pure {x : Str} {st : Stmt} {N ps : List Str} {n p k : Nat} {body : MS} (A : FunAt K mg x st ps) (Sc : FnScope N ps (defScope st)) (hNp : ps.length ≤ N.length)
    (hb : ∀ (cdv : Value) (A : Around) (outer : List Env) (s : Shared) (H : Hp) (E : XK) (F : Fr) (f : Addr), Room k (A.deeper (envOfC x (defScope st) s.heap.objs.size f cdv)) →
      PSs (cxOf (L2.CX P w) P w K mg base N x (defScope st) f cdv A outer s H E) (defBody st) (SS K mg F (fun cls d _ H => E cls d H) body))
    (hn : N.length = n := by rfl) (hp : ps.length = p := by rfl) : DefOk P w K mg base x (k + 1) (spF mg (mOf n p body)) := by
  subst hn hp
  obtain ⟨f, fd, F0, hm, hB⟩ := A.ex
  exact ⟨⟨f, fd, ps, fn_pure F0 Sc hNp fun cdv A outer s H E F hr => hb cdv A outer s H E F f hr, hm, F0.kp, hB⟩⟩
theorem def_cup {x : Str} {st : Stmt} {N ps : List Str} {n p k : Nat} {body : MS} (A : FunAt K mg x st ps) (Sc : FnScope N ps (defScope st)) (hNp : ps.length ≤ N.length)
    (hb : ∀ (cdv : Value) (A : Around) (outer : List Env) (s : Shared) (H : Hp) (E : XK) (F : Fr) (f : Addr), Room k (A.deeper (envOfC x (defScope st) s.heap.objs.size f cdv)) →
      PSs (cxOf (L2.CX P w) P w K mg base N x (defScope st) f cdv A outer s H E) (defBody st) (SS K mg F (fun cls d _ H => E cls d H) body))
    (hn : N.length = n := by rfl) (hp : ps.length = p := by rfl) : DefOk P w K mg base x (k + 1) (spC (mOfC n p body)) := by
  subst hn hp
  obtain ⟨f, fd, F0, hm, hB⟩ := A.ex
  exact ⟨⟨f, fd, ps, fn_cup F0 Sc hNp fun cdv A outer s H E F hr => hb cdv A outer s H E F f hr, hm, F0.kp, hB⟩⟩
end
section
variable {X : Cx} {F : Fr} {e a b c tg : Expr} {es : List Expr} {pos p : Pos} {f g h : M} {tf : MT} {fa : MA} {x : Str} {k : Nat} {pf pg : PF}
omit [TabSet] in
def addI (x y : D) : Option D := match x, y with
  | .int i, .int j => some (.int (i + j))
  | _, _ => none
omit [TabSet] in
def pAdd (pf pg : PF) : PF := pOp addI pf pg
theorem p_addN (ha : PE X a (SP X.K F pf)) (hb : PE X b (SP X.K F pg)) : PE X (.BinOp a .Add b pos) (SP X.K F (pAdd pf pg)) := p_add ha hb
/-- a module's number -/
theorem e_glob {x : Str} {i : Int} {pos : Pos} (hm : ∃ u, X.mg x = some u ∧ RelV (.int i) u) (hg : Gl X x := by rfl) (hdb : (x == ("__debug__" : Str)) = false := by decide) : PE X (.Name x pos) (SE X.K F (fC (.int i))) := by
  obtain ⟨u, h1, h2⟩ := hm
  exact se_c (fun _ => .int i) (pe_glob hg h1 h2 hdb)
omit [TabSet] in
/-- an own list against another value -/
def fCmpO (i : Nat) (o : D → D → Option Bool) (g : M) : M := fun δ => if isOw δ i = true then match g δ with
    | some (e, δ1) => match δ1[i]? with
      | some (.ow (.lst xs)) => match o (.list xs) e with
        | some k => some (.bool k, δ1)
        | none => none
      | _ => none
    | none => none
  else none
omit [TabSet] in
/-- a slice of a list or of a tuple -/
def fSlA (f : M) (pl ph : PO') : M := fun δ => match f δ with
  | some (.list _, _) => fList (lSl f pl ph) δ
  | some (.tuple _, _) => fSlT f pl ph δ
  | _ => none
theorem e_slA {lo hi : Option Expr} {p2 : Pos} {pl ph : PO'} (ha : PE X a (SE X.K F f)) (hl : PO X lo (SO X.K F pl)) (hh : PO X hi (SO X.K F ph)) : PE X (.Subscript a (.Slice lo hi none p2) pos) (SE X.K F (fSlA f pl ph)) :=
  pe_of fun S δ d δ' σ H Q R hf q => by
    unfold fSlA at hf
    split at hf
    · exact ⟨_, se_f (f_sl (x_of ha) hl hh), S, δ, d, δ', R, hf, q⟩
    · exact ⟨_, e_slT ha hl hh, S, δ, d, δ', R, hf, q⟩
    · cases hf
end
end Pd

/-! The reverse of a tuple. -/
namespace Pd
open PySem PySem.Spec PyProof.Rows L2 HT
variable [TabSet]
section
variable {prog : Program} {w : World} {A : Around} {E : Value → Shared → Prop} {s : Shared}
theorem rev_adjust (n : Nat) : Builtin.Slice.sliceAdjust none none (-1) (n : Int) = ((n : Int) - 1, -1) := by
  unfold Builtin.Slice.sliceAdjust
  rfl
theorem rev_places (n : Nat) : Builtin.Slice.slicePlaces ((n : Int) - 1) (-1) (-1) = n := by
  unfold Builtin.Slice.slicePlaces
  have h1 : ¬ ((-1 : Int) > 0) := by omega
  simp only [h1, if_false]
  have e : -(-1 : Int) = 1 := by decide
  rw [e, Int.ediv_one]
  split <;> omega
theorem fm_congr {f g : Nat → Option Value} : ∀ l : List Nat, (∀ m ∈ l, f m = g m) → l.filterMap f = l.filterMap g
  | [], _ => rfl
  | x :: r, h => by
    rw [List.filterMap_cons, List.filterMap_cons, h x (List.mem_cons_self ..), fm_congr r fun m hm => h m (List.mem_cons_of_mem _ hm)]
theorem rev_pick (xs : Array Value) : ((List.range xs.size).filterMap fun (m : Nat) => xs[((xs.size : Int) - 1 + (m : Int) * (-1)).toNat]?).toArray = xs.toList.reverse.toArray := by
  congr 1
  have e1 := PySem.W.krv_all xs.toList.reverse.toArray
  rw [List.size_toArray, List.length_reverse, Array.length_toList] at e1
  refine Eq.trans (fm_congr _ fun m hm => ?_) e1
  have hm' : m < xs.size := List.mem_range.mp hm
  have e2 : ((xs.size : Int) - 1 + (m : Int) * (-1)).toNat = xs.size - 1 - m := by omega
  rw [e2]
  show xs[xs.size - 1 - m]? = xs.toList.reverse.toArray[m]?
  refine Eq.trans ?_ (List.getElem?_toArray (xs := xs.toList.reverse) (i := m)).symm
  rw [List.getElem?_reverse (by rw [Array.length_toList]; exact hm'), Array.length_toList, Array.getElem?_toList]
theorem sliceApplied_rev {sl : Addr} {vs : Value} {n : Nat} {Q : Int × Int × Nat → Shared → Prop} (hs : s.heap.IsSliceOf sl .none .none vs) (ps : IsPart vs (some (-1)))
    (h : Q ((n : Int) - 1, -1, n) s) : wpAny (model prog w) A (Builtin.Slice.sliceApplied (.ref sl) (pure (n : Int))) Q E s := by
  obtain ⟨os, hos, hcs, hds⟩ := id hs
  unfold Builtin.Slice.sliceApplied Builtin.Slice.sliceFields
  refine wpAny_bind (wpAny_bind (wpAny_field hos hds (x := .none) rfl (wpAny_bind (wpAny_field hos hds (x := .none) rfl (wpAny_bind (wpAny_field hos hds (x := vs) rfl (wpAny_pure ?_)))))))
  refine wpAny_bind (slicePart_ ps ?_)
  show wpAny _ _ (if ((-1 : Int) == 0) = true then _ else _) _ _ s
  rw [if_neg (by decide)]
  refine wpAny_bind (slicePart_none (wpAny_bind (slicePart_none (wpAny_bind (wpAny_pure ?_)))))
  show wpAny _ _ (match Builtin.Slice.sliceAdjust none none (-1) (n : Int) with | (lo, hi) => pure (lo, (-1 : Int), Builtin.Slice.slicePlaces lo hi (-1))) _ _ s
  rw [rev_adjust]
  show wpAny _ _ (pure ((n : Int) - 1, (-1 : Int), Builtin.Slice.slicePlaces ((n : Int) - 1) (-1) (-1))) _ _ s
  rw [rev_places]
  exact wpAny_pure h
theorem getItem_tuple_rev {t sl : Addr} {items : Array Value} {vs : Value} {Q : Value → Shared → Prop} (ht : IsTup s.heap t items) (hs : s.heap.IsSliceOf sl .none .none vs) (ps : IsPart vs (some (-1)))
    (h : Q (.ref s.heap.objs.size) { s with heap := s.heap.push { cls := .type "tuple", data := .seq items.toList.reverse.toArray } })
    (hsz : items.size ≤ sizeLine) : wpAny (model prog w) A (getItem (.ref t) (.ref sl)) Q E s := by
  have htake : sizeOk (.seq items.toList.reverse.toArray) := by
    show items.toList.reverse.toArray.size ≤ sizeLine
    rw [List.size_toArray, List.length_reverse, Array.length_toList]
    exact hsz
  obtain ⟨os, hos, hcs, hds⟩ := id hs
  have hTs : s.TypeIs (.ref sl) "slice" := ⟨os, hos, hcs⟩
  unfold getItem
  try with_reducible refine wpAny_holding ?_
  first | refine wpAny_bind (wpAny_pure ?_) | skip
  refine wpAny_bind (wpAny_sequenceKey ht.typeIs (by decide) ?_)
  refine wpAny_bind (wpAny_callSpecial?_slot (name := Str.ofString "__getitem__") ht.typeIs PyProof.Rows.slot_tuple_getitem
    (wpAny_call_entry PyProof.Rows.slot_tuple_getitem ht.typeIs entry_tuple_getitem ?_ (args_tuple_getitem _ _)))
  show wpAny _ _ (Builtin.Tuple.tupleItemsOf (.ref t) >>= _) _ _ s
  refine wpAny_bind (tupleItemsOf_ ht ?_)
  refine wpAny_bind (wpAny_typeOf hTs ?_)
  rw [if_pos (by decide)]
  refine wpAny_bind (sliceApplied_rev hs ps ?_)
  have hno : ¬ ((((items.size : Int) - 1) == 0 && (-1 : Int) == 1 && items.size == items.size) = true) := by
    rw [show ((-1 : Int) == 1) = false by decide, Bool.and_false, Bool.false_and]
    exact Bool.false_ne_true
  show wpAny _ _ (if (((items.size : Int) - 1) == 0 && (-1 : Int) == 1 && items.size == items.size) = true then _ else _) _ _ s
  rw [if_neg hno, rev_pick]
  first
    | exact wpAny_bind (m := Builtin.Tuple.tupleExact _) (wpAny_newObj_type (wpAny_pure ⟨_, rfl, wpAny_pure h⟩) htake)
    | exact wpAny_bind (m := Builtin.Tuple.tupleExact _) (wpAny_newObj_type (wpAny_bind (wpAny_pure (wpAny_pure ⟨_, rfl, wpAny_pure h⟩))) htake)
    | exact wpAny_bind (wpAny_bind (m := Builtin.Tuple.tupleExact _) (wpAny_newObj_type (wpAny_pure (wpAny_pure ⟨_, rfl, wpAny_pure h⟩)) htake))
    | exact wpAny_bind (wpAny_bind (m := Builtin.Tuple.tupleExact _) (wpAny_newObj_type (wpAny_pure ⟨_, rfl, wpAny_pure h⟩) htake))
end
section
variable {X : Cx} {F : Fr} {e : Expr} {f : M}
theorem pe_revT {te : TE} {k : Nat} {p1 p2 p3 pos : Pos} (he : PE X e te) : PE X (.Subscript e (.Slice none none (some (.UnaryOp .USub (.Constant (.int 1) k p1) p2)) p3) pos)
    (fun σ H Q => te σ H fun x H1 => ∃ a xs, x = .ref a ∧ SqT X.K H1 a xs ∧ ∀ p, H1 p = none → Q (.ref p) (upd H1 p (.tup xs.reverse))) := by
  refine ⟨fun pins s σ H Q I h => ?_⟩
  refine Subscript_ (thn (he.run pins s σ H _ I h) fun v s1 ⟨x, H1, I1, r1, q1⟩ => ?_)
  obtain ⟨a, xs, ex, hx, q⟩ := q1
  subst ex
  cases r1
  have hst : PO X (some (.UnaryOp .USub (.Constant (.int 1) k p1) p2)) (tPart (tUn (rU fun i => .int (-i)) (tC (.int 1)))) := po_some (pe_un un_neg pe_int)
  refine wpAny_Slice (thn (po_none.run pins s1 σ H1 (fun o H2 => o = none ∧ H2 = H1) I1 ⟨rfl, rfl⟩) fun vl s2 ⟨l, H2, I2, pl, el, e2⟩ => ?_)
  subst el e2
  refine thn (po_none.run pins s2 σ H2 (fun o H3 => o = none ∧ H3 = H2) I2 ⟨rfl, rfl⟩) fun vu s3 ⟨u, H3, I3, pu, eu, e3⟩ => ?_
  subst eu e3
  refine thn (hst.run pins s3 σ H3 (fun o H4 => o = some (-1) ∧ H4 = H3) I3 ⟨1, rfl, -1, rfl, rfl, rfl⟩) fun vs s4 ⟨o, H4, I4, ps, eo, e4⟩ => ?_
  subst eo e4
  cases pl
  cases pu
  have I5 : Inv X pins σ H4 { s4 with heap := s4.heap.push { cls := .type "slice", data := .fields #[.none, .none, vs] } } := I4.kept (t' := s4.toks) fun b ob q => Heap.get?_push_of_some _ q
  obtain ⟨its, r, ht, hz⟩ := I5.tuple hx
  have hlen := r.length
  show wpAny (model X.prog X.w) X.A (subscriptTail e (.Slice none none (some (.UnaryOp .USub (.Constant (.int 1) k p1) p2)) p3) (.ref a) (.ref s4.heap.objs.size)) (EP X pins σ Q) X.xe { s4 with heap := s4.heap.push { cls := .type "slice", data := .fields #[.none, .none, vs] } }
  refine tail_any (ops := [.ref a, .ref s4.heap.objs.size]) ht.typeIs (PyProof.Rows.slot_tuple_getitem.lookup) ?_ (by with_unfolding_all rfl)
  refine getItem_tuple_rev ht (Heap.IsSliceOf.new _ .none .none vs) ps ?_ (by rw [List.size_toArray]; omega)
  refine ⟨.ref _, _, I5.laid (t' := s4.toks) (o := .tup xs.reverse) (fun b ob q => Heap.get?_push_of_some _ q) (Nat.le_refl _) ?_, rfl, q _ (I5.hok.fresh (Nat.le_refl _))⟩
  exact ⟨by rw [List.length_reverse]; exact hz, _, r.reverse, IsTup.new _ _⟩
omit [TabSet] in
/-- t[::-1], t a tuple -/
def fRevT (f : M) : M := fun δ => match f δ with
  | some (.tuple ds, δ') => some (.tuple ds.reverse, δ')
  | _ => none
omit [TabSet] in
def lRev (f : M) : MA := fun δ => match f δ with
  | some (.list ds, δ') => some (ds.reverse, δ')
  | _ => none
omit [TabSet] in
def fRev (f : M) : M := fun δ => match f δ with
  | some (.list _, _) => fList (lRev f) δ
  | some (.tuple _, _) => fRevT f δ
  | _ => none
theorem e_revT {k : Nat} {p1 p2 p3 pos : Pos} (ha : PE X e (SE X.K F f)) : PE X (.Subscript e (.Slice none none (some (.UnaryOp .USub (.Constant (.int 1) k p1) p2)) p3) pos) (SE X.K F (fRevT f)) := by
  refine pe_of fun S δ d δ' σ H Q R hf q => ⟨_, pe_revT ha, ?_⟩
  unfold fRevT at hf
  split at hf
  · rename_i ds δ1 h1
    cases hf
    refine ⟨S, δ, _, _, R, h1, fun v S1 H1 s1 R1 d1 => ?_⟩
    obtain ⟨p1, v1, rfl, e1, d1⟩ := dq_tup d1
    refine ⟨p1, v1, rfl, SqT.of (R1.sub _ _ e1), fun p hp => ?_⟩
    obtain ⟨g4, g5⟩ := grow_tup R1.sub hp (dqa_rev d1)
    exact q _ _ _ (s1.trans (Stp.grow g4)) (R1.grow g4) g5
  · cases hf
theorem f_rev {k : Nat} {p1 p2 p3 pos : Pos} (ha : PE X e (SX X.K F f)) : PE X (.Subscript e (.Slice none none (some (.UnaryOp .USub (.Constant (.int 1) k p1) p2)) p3) pos) (SF X.K F (lRev f)) := by
  refine pf_of fun S δ ds δ' σ H Q R hf q => ⟨_, pe_revL ha, ?_⟩
  unfold lRev at hf
  split at hf
  · rename_i zs δ1 h1
    cases hf
    refine ⟨S, δ, _, _, R, h1, fun v S1 H1 s1 R1 d1 => ?_⟩
    obtain ⟨p1, v1, rfl, e1, d1⟩ := d1
    refine ⟨p1, v1, rfl, SqL.of e1, fun p hp => ?_⟩
    obtain ⟨R4, s4, n4⟩ := lay_fresh (o := .lst v1.reverse) R1 hp
    refine q p _ S1 _ (s1.trans s4) R4 ?_ n4 upd_same (dqa_rev d1)
    cases hz : H p with
    | none => rfl
    | some o =>
      obtain ⟨o', q'⟩ := s1.dom p o hz
      rw [hp] at q'; cases q'
  · cases hf
theorem e_rev {k : Nat} {p1 p2 p3 pos : Pos} (ha : PE X e (SE X.K F f)) : PE X (.Subscript e (.Slice none none (some (.UnaryOp .USub (.Constant (.int 1) k p1) p2)) p3) pos) (SE X.K F (fRev f)) :=
  pe_of fun S δ d δ' σ H Q R hf q => by
    unfold fRev at hf
    split at hf
    · exact ⟨_, se_f (f_rev (x_of ha)), S, δ, d, δ', R, hf, q⟩
    · exact ⟨_, e_revT ha, S, δ, d, δ', R, hf, q⟩
    · cases hf
end
end Pd

/-! Own lists in front; the script; lists that a def makes. -/
namespace Pd
open PySem PySem.Spec PyProof.Rows L2
open Evl (Ex)
variable [TabSet]
theorem ex_own {S H : Hp} (ex : Ex S H) {a : Addr} {o : HO} (hS : S a = none) (hH : H a = some o) : Ex S (upd S a o) ∧ Ex (upd S a o) H := by
  refine ⟨Ex.new hS, fun b u h => ?_⟩
  by_cases e : b = a
  · subst e
    rw [upd_same] at h
    cases h
    exact hH
  · rw [upd_ne e] at h
    exact ex b u h
section
variable {X : Cx} {F : Fr} {e a b c tg : Expr} {es : List Expr} {pos p : Pos} {f g h : M} {tf : MT} {fa : MA} {x : Str} {k : Nat} {pf pg : PF}
theorem cmpO_run {i : Nat} {op : CmpOp} {o : D → D → Option Bool} {S : Hp} {δ δ' : DE} {d : D} {σ : L2.St} {H : Hp} {Q : VK} (ho : CmpOk X op o) (R : RSt X.K F S H σ δ) (hf : fCmpO i o g δ = some (d, δ'))
    (q : ∀ v S' H', Stp S H S' H' σ δ δ' → RSt X.K F S' H' σ δ' → Dq S' v d → Q v H') : ∃ (r : R2) (a0 : Addr), OpR X (compareOp op) r ∧ σ[i]? = some (some (.ref a0)) ∧ SE X.K F g σ H fun y H2 => r (.ref a0) y H2 Q := by
  unfold fCmpO at hf
  split at hf
  · rename_i hi
    obtain ⟨zs, hz⟩ := isOw_of hi
    obtain ⟨a0, vs0, ea0, _⟩ := ob_addr R hz
    split at hf
    · rename_i e1 δ1 h1
      split at hf
      · rename_i xs h2
        split at hf
        · rename_i k h3
          cases hf
          obtain ⟨r, k1, k2⟩ := ho _ _ k h3
          refine ⟨r, a0, k1, ea0, S, δ, e1, _, R, h1, fun y S1 H1 s1 R1 d1 => ?_⟩
          obtain ⟨a1, vs, w1, w2, w3, w4⟩ := ow_addr R1 h2
          rw [ea0] at w1
          cases w1
          obtain ⟨x1, x2⟩ := ex_own R1.sub w2 w3
          exact k2 _ H1 (.ref a0) y _ x2 (.lst upd_same (dqa_ext x1 w4)) (dq_ext x1 d1) (q _ S1 H1 s1 R1 (.bl k))
        · cases hf
      · cases hf
    · cases hf
  · cases hf
theorem e_cmpO {i : Nat} {px : Pos} {op : CmpOp} {o : D → D → Option Bool} (ho : CmpOk X op o) (hb : PE X b (SE X.K F g)) (hN : X.N[i]? = some x := by rfl) (hv : Vis X.env.scope x := by first | exact Or.inl rfl | exact Or.inr (Or.inl rfl) | exact Or.inr (Or.inr rfl)) (hd : (x == ("__debug__" : Str)) = false := by decide)
    (hcd : (x == ("__classdict__" : Str)) = false := by decide) (hm : behindInMarks op b = false := by first | exact nomark _ | rfl) : PE X (.Compare (.Name x px) [op] [b] pos) (SE X.K F (fCmpO i o g)) :=
  pe_of fun S δ d δ' σ H Q R hf q => by
    obtain ⟨r, a0, h1, h2, h3⟩ := cmpO_run ho R hf q
    exact ⟨_, pe_cmpR h1 (pe_var hN hv hd hcd) hb hm, .ref a0, h2, h3⟩
omit [TabSet] in
def fCmpOT (i : Nat) (o : D → D → Option Bool) (g : M) : MT := fun δ => match fCmpO i o g δ with
  | some (.bool b, δ') => some (b, δ')
  | _ => none
theorem t_cmpO {i : Nat} {px : Pos} {op : CmpOp} {o : D → D → Option Bool} (ho : CmpOk X op o) (hb : PE X b (SE X.K F g)) (hN : X.N[i]? = some x := by rfl) (hv : Vis X.env.scope x := by first | exact Or.inl rfl | exact Or.inr (Or.inl rfl) | exact Or.inr (Or.inr rfl)) (hd : (x == ("__debug__" : Str)) = false := by decide)
    (hcd : (x == ("__classdict__" : Str)) = false := by decide) (hm : behindInMarks op b = false := by first | exact nomark _ | rfl) : PT X (.Compare (.Name x px) [op] [b] pos) (ST X.K F (fCmpOT i o g)) :=
  t_of_e (ff := fCmpO i o g) fun σ H Q hw => by
    obtain ⟨S, δ, d, δ', R, hf, q⟩ := hw
    obtain ⟨r, a0, h1, h2, h3⟩ := cmpO_run ho R hf q
    exact ⟨_, pt_cmpR h1 (pe_var hN hv hd hcd) hb hm, .ref a0, h2, h3⟩
omit [TabSet] in
/-- a, b = (a new list, e) -/
def sParO (i j : Nat) (ff : MA) (g : M) : MS := fun δ => match ff δ with
  | some (xs, δ1) => match g δ1 with
    | some (d, δ2) => if free0 i δ2 = true ∧ free0 j δ2 = true ∧ i ≠ j then some (.nx ((δ2.set i (.ow xs)).set j (.sh d))) else none
    | none => none
  | none => none
variable {W : WX}
theorem s_parO {i j : Nat} {y : Str} {px py pt : Pos} {kt k2 pt2} {ff : MA} (hc : X.calm = true) (hN : X.N.Nodup) (ha : PE X a (SF X.K F ff)) (hb : PE X b (SE X.K F g)) (hw : swappedStores [.Tuple [.Name x px, .Name y py] kt pt] (.Tuple [a, b] k2 pt2) X.env = pure (some [x, y])) (hi : X.N[i]? = some x := by rfl) (hj : X.N[j]? = some y := by rfl) (hij : i ≠ j := by decide)
    (he : starEach (a :: [b]) X.env = (false, eval a X.env) :: starEach [b] X.env := by rfl) (he2 : starEach (b :: []) X.env = (false, eval b X.env) :: starEach [] X.env := by rfl)
    (hx : X.env.scope.names.lookup x = some .local := by rfl) (hy : X.env.scope.names.lookup y = some .local := by rfl) (hs : swapsWithSole [.Tuple [.Name x px, .Name y py] kt pt] (.Tuple [a, b] k2 pt2) pos.line X.env = pure false := by rfl) :
    PS X (.Assign [.Tuple [.Name x px, .Name y py] kt pt] (.Tuple [a, b] k2 pt2) pos) (SS X.K X.mg F W (sParO i j ff g)) := ps_of (ps_par hc hN hi hj hij hx hy (pa_cons ha (pa_cons hb pa_nil he2) he) hw hs) fun Z σ H hw => by
  obtain ⟨S, δ, o, R, hf, q⟩ := hw
  unfold sParO at hf
  split at hf
  · rename_i xs δ1 h1
    split at hf
    · rename_i d δ2 h2
      split at hf
      · rename_i h0
        cases hf
        refine ⟨S, δ, _, _, R, h1, fun a0 vs S1 H1 s1 R1 n0 n1 e1 d1 => ⟨S1, δ1, d, δ2, R1, h2, fun v S2 H2 s2 R2 d2 => ?_⟩⟩
        obtain ⟨z1, z2, z3⟩ := own_new R s1 n0
        have e2 : H2 a0 = some (.lst vs) := s2.keep _ _ e1 nt_lst z3
        have n2 : S2 a0 = none := nt_none (s2.out _ _ e1) n1 R2.sub e2 (by intro _ z; cases z)
        have z4 : ¬ Own σ δ2 a0 := fun o => z3 (s2.own o)
        have R3 := R2.set_ow n2 (.inl z1) e2 (ob_lst (dqa_ext s2.s d1)) z4 i (free0_of h0.1)
        refine ⟨_, _, rfl, q _ S2 H2 (s1.s.trans s2.s) (R3.set_sh d2 j fun e xs' z => ?_)⟩
        subst e
        have h9 := free0_of h0.2.1 rfl
        rw [List.getElem?_set_ne h0.2.2] at z
        exact h9 _ z
      · cases hf
    · cases hf
  · cases hf
/-! ### the script -/
omit [TabSet] in
def lScr (i : Nat) : MA := fun δ => match δ[i]? with
  | some (.scr ns) => if ns.length ≤ 100000 then some (ns.map .int, δ) else none
  | _ => none
theorem scr_addr {K : PySem.W.Frag} {S H : Hp} {σ : L2.St} {δ : DE} {i : Nat} {ns : List Int} (R : RSt K F S H σ δ) (hd : δ[i]? = some (.scr ns)) : ∃ a, σ[i]? = some (some (.ref a)) ∧ SqL K S a (ns.map V.int) := by
  have hl : i < σ.length := by rw [R.len]; exact (List.getElem?_eq_some_iff.mp hd).1
  obtain ⟨a, e1, e2⟩ := R.slot i _ _ (List.getElem?_eq_getElem hl) hd
  exact ⟨a, by rw [List.getElem?_eq_getElem hl, e1], e2⟩
theorem dqa_nums {S : Hp} : ∀ ns : List Int, DqAll S (ns.map V.int) (ns.map .int)
  | [] => .nil
  | n :: r => .cons (.int n) (dqa_nums r)
theorem sql_ext {K : PySem.W.Frag} {S H : Hp} (ex : Ex S H) {a : Addr} {vs : List V} (h : SqL K S a vs) : SqL K H a vs := by
  rcases h with (h | h) | h
  · exact .inl (.inl (ex _ _ h))
  · obtain ⟨o, h⟩ := h
    exact .inl (.inr ⟨o, ex _ _ h⟩)
  · exact .inr h
theorem f_listScr {i : Nat} {pp px : Pos} (hm : X.mg "list" = none) (hg : Gl X "list" := by rfl) (hN : X.N[i]? = some x := by rfl) (hv : Vis X.env.scope x := by first | exact Or.inl rfl | exact Or.inr (Or.inl rfl) | exact Or.inr (Or.inr rfl)) (hd : (x == ("__debug__" : Str)) = false := by decide)
    (hcd : (x == ("__classdict__" : Str)) = false := by decide) (he : starEach (.Name x px :: []) X.env = (false, eval (.Name x px) X.env) :: starEach [] X.env := by rfl) (hpl : (backTo pos (starEach [] X.env)).any (·.1) = false := by rfl) :
    PE X (.Call (.Name "list" pp) [.Name x px] [] pos) (SF X.K F (lScr i)) := by
  refine pf_of fun S δ ds δ' σ H Q R hf q => ⟨_, pe_callTy call_list_of hg hm boot_list (pa_cons (pe_var hN hv hd hcd) pa_nil he) (he := he) (hpl := hpl), ?_⟩
  unfold lScr at hf
  split at hf
  · rename_i ns h1
    split at hf
    · cases hf
      obtain ⟨a0, w1, w2⟩ := scr_addr R h1
      refine ⟨.ref a0, w1, a0, _, rfl, .inl (sql_ext R.sub w2), fun l hl => ?_⟩
      obtain ⟨R2, s2, n2⟩ := lay_fresh (o := .lst (ns.map V.int)) R hl
      exact q l _ S _ s2 R2 hl n2 upd_same (dqa_nums ns)
    · cases hf
  · cases hf
/-! ### a def that makes a list -/
abbrev MO := List Int → Option (List D)
def spO (K : PySem.W.Frag) (m : MO) : Sp := fun vs H Q _ => ∃ S a ns xs, vs = [.ref a] ∧ Ex S H ∧ SqL K S a (ns.map V.int) ∧ m ns = some xs ∧
  ∀ p us S' H', Grow S H S' H' → H p = none → S' p = none → H' p = some (.lst us) → DqAll S' us xs → Q (.ref p) H'
def SSO (K : PySem.W.Frag) (mg : Str → Option Value) (F : Fr) (W : WX) (f : MA) : TS := fun Z σ H => ∃ S δ xs δ', RSt K F S H σ δ ∧ f δ = some (xs, δ') ∧
  ∀ p us σ' S' H', Ex S S' → RSt K F S' H' σ' δ' → F.H0 p = none → F.io ≠ some p → S' p = none → H' p = some (.lst us) → DqAll S' us xs → Z.rt (.ref p) H'
omit [TabSet] in
def oSeq (fs : MS) (ff : MA) : MA := fun δ => match fs δ with
  | some (.nx δ1) => ff δ1
  | _ => none
theorem o_ret {ff : MA} (he : PE X e (SF X.K F ff)) : PSs X [.Return (some e) pos] (SSO X.K X.mg F W ff) := by
  refine ⟨fun pins s σ H Z I hw => (pss_one (ps_ret he)).run pins s σ H Z I ?_⟩
  obtain ⟨S, δ, xs, δ', R, hf, q⟩ := hw
  refine ⟨S, δ, xs, δ', R, hf, fun a0 vs S1 H1 s1 R1 n0 n1 e1 d1 => ?_⟩
  obtain ⟨z1, z2, z3⟩ := own_new R s1 n0
  exact q a0 vs σ S1 H1 s1.s R1 z1 z2 n1 e1 d1
theorem o_cons {st : Stmt} {rest : List Stmt} {fs : MS} {ff : MA} (h1 : PS X st (SS X.K X.mg F W fs)) (h2 : PSs X rest (SSO X.K X.mg F W ff)) : PSs X (st :: rest) (SSO X.K X.mg F W (oSeq fs ff)) := by
  refine ⟨fun pins s σ H Z I hw => (pss_cons h1 h2).run pins s σ H Z I ?_⟩
  obtain ⟨S, δ, xs, δ', R, hf, q⟩ := hw
  unfold oSeq at hf
  split at hf
  · rename_i δ1 hd
    exact ⟨S, δ, .nx δ1, R, hd, fun σ1 S1 H1 x1 R1 => ⟨S1, δ1, xs, δ', R1, hf, fun p us σ2 S2 H2 x2 => q p us σ2 S2 H2 (x1.trans x2)⟩⟩
  · cases hf
omit [TabSet] in
def mOfO (n : Nat) (body : MA) : MO := fun ns => match body (.scr ns :: List.replicate (n - 1) .no) with
  | some (xs, _) => some xs
  | none => none
omit [TabSet] in
/-- the call, the list kept by the caller -/
def lCallO (i : Nat) (m : MO) : MA := fun δ => match δ[i]? with
  | some (.scr ns) => match m ns with
    | some xs => some (xs, δ)
    | none => none
  | _ => none
theorem f_callO {i : Nat} {y : Str} {py : Pos} {m : MO} (D0 : DefOk X.prog X.w X.K X.mg X.base x k (spO X.K m)) (hr : Room k X.A) (hN : X.N[i]? = some y := by rfl) (hv : Vis X.env.scope y := by first | exact Or.inl rfl | exact Or.inr (Or.inl rfl) | exact Or.inr (Or.inr rfl)) (hg : Gl X x := by rfl) (hdb : (x == ("__debug__" : Str)) = false := by decide)
    (hd : (y == ("__debug__" : Str)) = false := by decide) (hcd : (y == ("__classdict__" : Str)) = false := by decide) (he : starEach (.Name y py :: []) X.env = (false, eval (.Name y py) X.env) :: starEach [] X.env := by rfl) (hpl : (backTo pos (starEach [] X.env)).any (·.1) = false := by rfl) :
    PE X (.Call (.Name x p) [.Name y py] [] pos) (SF X.K F (lCallO i m)) := by
  obtain ⟨fn, fd, ps, FO, hm, hk, hb⟩ := D0.ex
  refine pf_of fun S δ ds δ' σ H Q R hf q => ⟨_, pe_call FO hr hg hm hk hb .nil passL (pa_cons (pe_var hN hv hd hcd) pa_nil he) hdb he hpl, ?_⟩
  unfold lCallO at hf
  split at hf
  · rename_i ns h1
    split at hf
    · rename_i xs h2
      cases hf
      obtain ⟨a0, w1, w2⟩ := scr_addr R h1
      refine ⟨.ref a0, w1, S, a0, ns, _, rfl, R.sub, w2, h2, fun p us S1 H1 g1 n1 n2 e1 d1 => ?_⟩
      exact q p us S1 H1 (Stp.grow g1) (R.grow g1) n1 n2 e1 d1
    · cases hf
  · cases hf
end
section
variable {P : Program} {w : World} {K : PySem.W.Frag} {mg : Str → Option Value} {base : Heap}
theorem start_scr {N : List Str} {F : Fr} {S H : Hp} {a : Addr} {ns : List Int} {n : Nat} (hF : F = ⟨H, S, none⟩) (ex : Ex S H) (hq : SqL K S a (ns.map V.int)) (hl : 1 ≤ N.length) (hn : n = N.length - 1) : RSt K F S H (L2.start N [.ref a]) (.scr ns :: List.replicate n .no) := by
  subst hF
  refine ⟨ex, fun b o h _ _ => h, fun b o h => ⟨o, h⟩, fun t => t, Ex.refl S, fun b o h => rfl, fun b h => (by cases h), ?_, fun i v s h1 h2 => ?_, fun i j a xs ys h1 h2 h3 h4 => ?_, fun a h => (by cases h)⟩
  · unfold L2.start
    simp only [List.length_append, List.length_map, List.length_replicate, List.length_cons, List.length_nil]
    omega
  · cases i with
    | zero =>
      cases h2
      cases h1
      exact ⟨a, rfl, hq⟩
    | succ i =>
      rw [List.getElem?_cons_succ, List.getElem?_replicate] at h2
      split at h2
      · cases h2; trivial
      · cases h2
  · cases i with
    | zero => cases h1
    | succ i =>
      rw [List.getElem?_cons_succ, List.getElem?_replicate] at h1
      split at h1 <;> cases h1
theorem def_made {x : Str} {st : Stmt} {N ps : List Str} {n k : Nat} {body : MA} (A : FunAt K mg x st ps) (Sc : FnScope N ps (defScope st)) (hNp : ps.length ≤ N.length)
    (hb : ∀ (cdv : Value) (A : Around) (outer : List Env) (s : Shared) (H : Hp) (E : XK) (F : Fr) (f : Addr), Room k (A.deeper (envOfC x (defScope st) s.heap.objs.size f cdv)) →
      PSs (cxOf (L2.CX P w) P w K mg base N x (defScope st) f cdv A outer s H E) (defBody st) (SSO K mg F (fun cls d _ H => E cls d H) body))
    (hn : N.length = n := by rfl) (hp : ps.length = 1 := by rfl) : DefOk P w K mg base x (k + 1) (spO K (mOfO n body)) := by
  subst hn
  obtain ⟨f, fd, F0, hm, hB⟩ := A.ex
  refine ⟨⟨f, fd, ps, F0.okX Sc (fun vs H Q E h => ?_) (fun cdv A outer s H vs Q E hr h => ?_), hm, F0.kp, hB⟩⟩
  · obtain ⟨S, a, ns, xs, rfl, _⟩ := h
    exact hp.symm
  · obtain ⟨S, a, ns, xs, rfl, ex, hq, hm, q⟩ := h
    refine ⟨_, hb cdv A outer s H E ⟨H, S, none⟩ f hr, ?_⟩
    unfold mOfO at hm
    split at hm
    · rename_i zs δ' hbd
      cases hm
      refine ⟨S, _, _, _, start_scr rfl ex hq (by omega) rfl, hbd, fun p us σ' S' H' x1 R' n1 _ n3 e1 d1 => ?_⟩
      exact q p us S' H' ⟨R'.s0, fun b o e nt => R'.base b o e nt (by simp), R'.sub, R'.out, R'.dom0, R'.tb0⟩ n1 n3 e1 d1
    · cases hm
end
end Pd

/-! Sorting: ints in a list or tuple, tuples of ints behind an empty one. -/
namespace Pd
/-! ### insertion -/
def ins {α : Type} (le : α → α → Bool) (x : α) : List α → List α
  | [] => [x]
  | y :: r => if le x y = true then x :: y :: r else y :: ins le x r
def srt {α : Type} (le : α → α → Bool) : List α → List α
  | [] => []
  | x :: r => ins le x (srt le r)
section
variable {α : Type} {le : α → α → Bool}
theorem ins_perm (x : α) : ∀ l : List α, (ins le x l).Perm (x :: l)
  | [] => .refl _
  | y :: r => by
    unfold ins
    split
    · exact .refl _
    · exact ((ins_perm x r).cons y).trans (.swap x y r)
theorem srt_perm : ∀ l : List α, (srt le l).Perm l
  | [] => .refl _
  | x :: r => (ins_perm x _).trans ((srt_perm r).cons x)
theorem ins_sorted (tot : ∀ x y, le x y = true ∨ le y x = true) (tr : ∀ x y z, le x y = true → le y z = true → le x z = true) (x : α) : ∀ l : List α, l.Pairwise (le · ·) → (ins le x l).Pairwise (le · ·)
  | [], _ => List.pairwise_singleton _ _
  | y :: r, h => by
    obtain ⟨h1, h2⟩ := List.pairwise_cons.mp h
    unfold ins
    split
    · rename_i e
      refine List.pairwise_cons.mpr ⟨fun z hz => ?_, h⟩
      rcases List.mem_cons.mp hz with rfl | hz
      · exact e
      · exact tr _ _ _ e (h1 z hz)
    · rename_i e
      refine List.pairwise_cons.mpr ⟨fun z hz => ?_, ins_sorted tot tr x r h2⟩
      rcases List.mem_cons.mp ((ins_perm x r).mem_iff.mp hz) with rfl | hz
      · exact (tot z y).resolve_left e
      · exact h1 z hz
theorem srt_sorted (tot : ∀ x y, le x y = true ∨ le y x = true) (tr : ∀ x y z, le x y = true → le y z = true → le x z = true) : ∀ l : List α, (srt le l).Pairwise (le · ·)
  | [] => .nil
  | x :: r => ins_sorted tot tr x _ (srt_sorted tot tr r)
theorem srt_uniq (tot : ∀ x y, le x y = true ∨ le y x = true) (tr : ∀ x y z, le x y = true → le y z = true → le x z = true) (anti : ∀ x y, le x y = true → le y x = true → x = y) {l m : List α} (hp : m.Perm l) (hs : m.Pairwise (le · ·)) : m = srt le l :=
  List.Perm.eq_of_pairwise (le := (le · ·)) (fun a b _ _ h1 h2 => anti a b h1 h2) hs (srt_sorted tot tr l) (hp.trans (srt_perm l).symm)
end
def leI (x y : Int) : Bool := decide (x ≤ y)
def leT (x y : List Int) : Bool := !HT.lexLt y x
theorem leI_tot (x y : Int) : leI x y = true ∨ leI y x = true := by
  unfold leI
  rw [decide_eq_true_iff, decide_eq_true_iff]
  omega
theorem leI_tr (x y z : Int) : leI x y = true → leI y z = true → leI x z = true := by
  unfold leI
  rw [decide_eq_true_iff, decide_eq_true_iff, decide_eq_true_iff]
  omega
theorem leI_anti (x y : Int) : leI x y = true → leI y x = true → x = y := by
  unfold leI
  rw [decide_eq_true_iff, decide_eq_true_iff]
  omega
theorem leT_iff {x y : List Int} : leT x y = true ↔ HT.lexLt y x = false := by
  unfold leT
  cases HT.lexLt y x <;> simp
theorem leT_tot (x y : List Int) : leT x y = true ∨ leT y x = true := by
  rw [leT_iff, leT_iff]
  cases h : HT.lexLt y x with
  | false => exact .inl rfl
  | true => exact .inr (NtL.lex_asym _ _ h)
theorem leT_tr (x y z : List Int) : leT x y = true → leT y z = true → leT x z = true := by
  rw [leT_iff, leT_iff, leT_iff]
  exact fun h1 h2 => NtL.lex_tr _ _ _ h1 h2
theorem leT_anti : ∀ x y : List Int, leT x y = true → leT y x = true → x = y := by
  intro x
  induction x with
  | nil =>
    intro y h1 h2
    cases y with
    | nil => rfl
    | cons b y =>
      rw [leT_iff] at h2
      cases h2
  | cons a x ih =>
    intro y h1 h2
    cases y with
    | nil =>
      rw [leT_iff] at h1
      cases h1
    | cons b y =>
      rw [leT_iff, HT.lexLt_cons] at h1 h2
      by_cases e : a = b
      · subst e
        rw [if_pos rfl] at h1 h2
        rw [ih y (leT_iff.mpr h1) (leT_iff.mpr h2)]
      · rw [if_neg (fun z => e z.symm)] at h1
        rw [if_neg e] at h2
        have h1' := of_decide_eq_false h1
        have h2' := of_decide_eq_false h2
        exact absurd (show a = b by omega) e

open PySem PySem.Spec PyProof.Rows L2
open Evl (Ex)
/-! ### sorted of a tuple of ints -/
section
variable {prog : Program} {w : World} {A : Around} {E : Value → Shared → Prop} {s : Shared}
theorem collect_tup {l : Addr} {vs : List Value} {Q : List Value → Shared → Prop} (hl : IsTup s.heap l vs.toArray) (hsz : vs.length ≤ sizeLine)
    (h : Q vs { s with heap := (s.heap.push (seqObj "list" #[] 0)).update s.heap.objs.size (Obj.mapSeq (· ++ vs.toArray)) }) : wpAny (model prog w) A (collect (.ref l)) Q E s := by
  obtain ⟨o, g0, gc, n, gd⟩ := id hl
  unfold collect
  refine wpAny_bind (wpAny_runValue (codeAny_builtin entry_proto_collect' (show wpAny _ _ (do again (.builtin "list.__iadd__" ⟨[← newList [], .ref l], []⟩)) _ _ s from
    wpAny_bind (wpAny_newList (wpAny_pure ⟨Code.quiet_builtin _ (by decide +kernel), codeAny_builtin entry_list_iadd' ?_⟩)))))
  show wpAny _ _ (Builtin.List.listExtendWith (.ref s.heap.objs.size) (.ref l) (.ref s.heap.objs.size)) _ _ { s with heap := s.heap.push (seqObj "list" #[] 0) }
  unfold Builtin.List.listExtendWith
  have g1 : (s.heap.push (seqObj "list" #[] 0)).get? l = some o := Heap.get?_push_of_some _ g0
  have gt : (Value.type "tuple" == Value.type "tuple") = true := rfl
  refine wpAny_bind (wpAny_typeOf (T := "tuple") ⟨o, g1, gc⟩ ?_)
  rw [if_pos (by rw [gt]; simp)]
  refine wpAny_bind (listItems_at g1 gd (wpAny_bind (listItems_at (xs := #[]) (n := 0) (Heap.get?_push_size _ rfl) rfl ?_)))
  rw [if_neg (by simp)]
  refine wpAny_bind (listUpdate_at (xs := #[]) (n := 0) (Heap.get?_push_size _ rfl) rfl (wpAny_pure ?_) (Nat.zero_le _) (by
    show (#[] ++ vs.toArray).size ≤ sizeLine + 1
    rw [Array.size_append, List.size_toArray]
    show 0 + vs.length ≤ _
    omega))
  show wpAny (model prog w) A (do
    let x ← load s.heap.objs.size
    match x.data with
    | .seq ys _ => pure ys.toList
    | _ => unsupported "internal:collect") Q E { s with heap := (s.heap.push (seqObj "list" #[] 0)).update s.heap.objs.size (Obj.mapSeq (· ++ vs.toArray)) }
  refine wpAny_bind (wpAny_load (get?_update_seq (Heap.get?_push_size _ rfl) _) ?_)
  show wpAny _ _ (pure ((#[] : Array Value) ++ vs.toArray).toList) Q E _
  have e : ((#[] : Array Value) ++ vs.toArray).toList = vs := by simp
  rw [e]
  exact wpAny_pure h
/-- sorted(t), t a tuple: as of a list -/
theorem sorted_ordT {l : Addr} {vs : List Value} {ltv : Value → Value → Bool} {Q : Value → Shared → Prop} (O : SrtO.Swo ltv) (hl : IsTup s.heap l vs.toArray) (hz : vs.length ≤ sizeLine)
    (hS : 2 ≤ vs.length → ∀ (h₁ : Heap) (a : Addr), (∀ b o, s.heap.get? b = some o → b ≠ a ∧ h₁.get? b = some o) → SrtO.SortableO prog w A.in1.in1 { s with heap := h₁ } a vs ltv)
    (h : ∀ out : List Value, SrtO.Srtd ltv out → SrtO.Stb ltv out vs → Q (.ref (s.heap.objs.size + 1)) { s with heap := sortedAll s.heap vs out.toArray }) :
    wpAny (model prog w) A (call (.builtin "sorted") [.ref l]) Q E s := by
  refine Calls.call_function_entry kind_sorted plain_sorted entry_sorted (args_sorted1 _) ?_
  unfold Builtin.«sorted»
  refine wpAny_bind (m := checkCount "sorted" 1 1 _) (wpAny_pure (wpAny_bind (collect_tup hl hz (wpAny_bind (wpAny_newList ?_ hz)))))
  have es : ((s.heap.push (seqObj "list" #[] 0)).update s.heap.objs.size (Obj.mapSeq (· ++ vs.toArray))).objs.size = s.heap.objs.size + 1 := (Heap.size_update ..).trans (size_push' _ _)
  have eo : (((s.heap.push (seqObj "list" #[] 0)).update s.heap.objs.size (Obj.mapSeq (· ++ vs.toArray))).push (seqObj "list" vs.toArray 0)).get? (s.heap.objs.size + 1) = some (seqObj "list" vs.toArray 0) := by
    rw [← es]
    exact Heap.get?_push_size _ rfl
  show wpAny _ _ _ _ _ { s with heap := ((s.heap.push (seqObj "list" #[] 0)).update s.heap.objs.size (Obj.mapSeq (· ++ vs.toArray))).push (seqObj "list" vs.toArray 0) }
  rw [es]
  refine wpAny_bind (wpAny_holding (wpAny_call_entry slot_list_sort ⟨_, eo, rfl⟩ entry_list_sort (SrtO.list_sort_ord O eo hz (fun h2 => hS h2 _ _ fun b o q => ?_) fun out hs hb => ⟨_, rfl, wpAny_pure ⟨_, rfl, h out hs hb⟩⟩) (args_list_sort _)))
  have lt : b < s.heap.objs.size := Heap.lt_size q
  exact ⟨Nat.ne_of_lt (Nat.lt_succ_of_lt lt), Heap.get?_push_of_some _ ((Heap.get?_update_ne _ _ _ _ (Nat.ne_of_lt lt)).trans (Heap.get?_push_of_some _ q))⟩
/-! ### tuples, the first of them empty -/
def TupsA (h : Heap) : List Value → List (Array Value) → Prop
  | [], [] => True
  | v :: vs, x :: xs => (∃ a, v = .ref a ∧ IsTup h a x) ∧ TupsA h vs xs
  | _, _ => False
theorem firsts_tup : ∀ (vs : List Value) (xs : List (Array Value)) {Q : List (Option Value) → Shared → Prop}, TupsA s.heap vs xs → Q (xs.map (·[0]?)) s → wpAny (model prog w) A (vs.mapM firstOfTuple') Q E s
  | [], [], _, _, h => by
    rw [List.mapM_nil]
    exact wpAny_pure h
  | [], _ :: _, _, t, _ => t.elim
  | _ :: _, [], _, t, _ => t.elim
  | v :: vs, x :: xs, Q, t, h => by
    obtain ⟨⟨a, rfl, o, g0, gc, n, gd⟩, t⟩ := t
    rw [List.mapM_cons, PySem.W.kas_first_eq]
    refine wpAny_bind (wpAny_bind (wpAny_typeOf (T := "tuple") ⟨o, g0, gc⟩ ?_))
    rw [if_neg (by first | decide | simp)]
    exact wpAny_bind (listItems_at g0 gd (wpAny_pure (wpAny_bind (firsts_tup vs xs t (wpAny_pure h)))))
theorem tupsA_type : ∀ {vs : List Value} {xs : List (Array Value)}, TupsA s.heap vs xs → ∀ v ∈ vs, s.TypeIs v "tuple"
  | v :: vs, x :: xs, t, u, hu => by
    obtain ⟨⟨a, rfl, o, g0, gc, n, gd⟩, t⟩ := t
    rcases List.mem_cons.mp hu with rfl | hu
    · exact ⟨o, g0, gc⟩
    · exact tupsA_type t u hu
theorem kind_tups {vs : List Value} {xs : List (Array Value)} {Q : SortKind → Shared → Prop} (t : TupsA s.heap vs (#[] :: xs)) (h : Q oneType' s) : wpAny (model prog w) A (keyKind' vs.toArray) Q E s := by
  rw [keyKind'_eq, List.mapM_toArray, map_eq_pure_bind]
  refine wpAny_bind (wpAny_bind (firsts_tup vs _ t (wpAny_pure ?_)))
  have e0 : (((#[] : Array Value) :: xs).map (·[0]?)).toArray[0]? = some (none : Option Value) := by simp
  rw [if_neg (by simp), e0, if_neg (by simp), oneTypeOnly'_eq, List.mapM_toArray, map_eq_pure_bind]
  refine wpAny_bind (wpAny_bind (wpAny_bind (PySem.W.kas_mapM (r := Value.type "tuple") _ (fun v hv Q' hq => wpAny_typeOf (tupsA_type t v hv) hq) (wpAny_pure ?_))))
  match vs, t with
  | v :: vs, t =>
    have e1 : ((List.map (fun _ => Value.type "tuple") (v :: vs)).toArray.all fun x => x == Value.type "tuple") = true := by
      simp only [List.all_toArray, List.all_map, List.all_eq_true]
      intro _ _
      rfl
    have e2 : (List.map (fun _ => Value.type "tuple") (v :: vs)).toArray[0]? = some (Value.type "tuple") := by simp
    rw [e2]
    simp only [e1, if_true]
    exact wpAny_pure (wpAny_pure h)
/-- v is a tuple of these ints -/
def TupI (h : Heap) (v : Value) (ns : List Int) : Prop := ∃ a items, v = .ref a ∧ IsTup h a items ∧ IntsAre items.toList ns
theorem lt_tups {v u : Value} {ns ms : List Int} {Q : Bool → Shared → Prop} (hu : A.units < cLine) (hv : TupI s.heap v ns) (hw : TupI s.heap u ms) (h : Q (HT.lexLt ns ms) s) : wpAny (model prog w) A (keyLt' oneType' v u) Q E s := by
  obtain ⟨a, items, rfl, ⟨⟨c1, dd, data, sl⟩, ga, gc, n, gd⟩, ia⟩ := hv
  obtain ⟨b, items2, rfl, ⟨⟨c2, dd2, data2, sl2⟩, gb, gc2, n2, gd2⟩, ib⟩ := hw
  simp only at gc gd gc2 gd2
  subst gc gd gc2 gd2
  rw [keyLt'_oneType, oneLt'_eq]
  simp only [if_true]
  refine wpAny_bind (wpAny_cRoomFor hu (wpAny_bind (wpAny_callSpecialIfBound?_slot (T := "tuple") ⟨_, ga, rfl⟩ PySem.F.slot_tuple_lt
    (call_meets PySem.F.slot_tuple_lt ⟨_, ga, rfl⟩ PySem.F.entry_tuple_lt (PySem.F.args_tuple_lt_2 _ _) (HT.tuple_lt_ints a b items items2 n n2 dd dd2 sl sl2 ns ms ia ib) ⟨ga, gb, ?_⟩))))
  exact wpAny_truthy_bool h
end
end Pd

/-! sorted, on data. -/
namespace Pd
open PySem PySem.Spec PyProof.Rows L2
open Evl (Ex)
section
variable {X : Cx}
/-- sorted(t), t a tuple of ints -/
def rSortTI (K : PySem.W.Frag) : List V → Hp → VK → Prop := fun vs H Q => ∃ (a : Addr) (ns : List Int), vs = [V.ref a] ∧ SqT K H a (ns.map V.int) ∧ ∀ p, H p = none → Q (.ref p) (upd H p (.lst ((srt leI ns).map V.int)))
theorem cr_sortTI : CallR X (.builtin "sorted") (rSortTI X.K) := by
  intro pins s σ H vs us Q I r h
  obtain ⟨a, ns, rfl, hs, q⟩ := h
  obtain ⟨its, rv, ht, hz⟩ := I.tuple hs
  rw [Vals.ref1 r]
  have hi := rv.ints
  refine sorted_ordT SrtO.swo_int ht (by rw [← rv.length]; exact hz) (fun h2 h₁ a' _ => SrtO.ints_sortable hi h2) fun out h1 h2 => ?_
  obtain ⟨k1, k2, k3⟩ := SrtO.ints_out hi h1 h2
  obtain ⟨ep, he'⟩ := PyProof.Rows.sortedAll_at s.heap its out.toArray
  have e : out.map SrtO.iv = srt leI ns := srt_uniq leI_tot leI_tr leI_anti k2 (k3.imp fun z => decide_eq_true z)
  rw [e] at k1
  have hlen : ((srt leI ns).map V.int).length ≤ sizeLine := by
    rw [List.length_map, (srt_perm ns).length_eq]
    rw [List.length_map] at hz
    exact hz
  exact ⟨.ref _, upd H (s.heap.objs.size + 1) (.lst ((srt leI ns).map V.int)), I.laid (t' := s.toks) (fun _ _ => PyProof.Rows.sortedAll_old) (Nat.le_succ _) ⟨hlen, out, ep, vals_of_ints k1, he'⟩, rfl, q _ (I.hok.fresh (Nat.le_succ _))⟩
/-- sorted(xs), xs a list of tuples of ints, the first of them empty -/
def rSortTs (K : PySem.W.Frag) : List V → Hp → VK → Prop := fun vs H Q => ∃ (a : Addr) (xs : List V) (k : V → List Int), vs = [V.ref a] ∧ SqL K H a xs ∧ (∀ x ∈ xs, ∃ t, x = V.ref t ∧ H t = some (.tup ((k x).map V.int))) ∧ (∃ x0 xr, xs = x0 :: xr ∧ k x0 = []) ∧
  ∀ ys p, ys.Perm xs → ys.map k = srt leT (xs.map k) → H p = none → Q (.ref p) (upd H p (.lst ys))
theorem tupsA_of {h : Heap} {k : Value → List Int} : ∀ {vs : List Value}, (∀ v ∈ vs, TupI h v (k v)) → ∃ xs : List (Array Value), TupsA h vs xs ∧ xs.length = vs.length ∧ ∀ v0 vr, vs = v0 :: vr → k v0 = [] → ∃ xr, xs = #[] :: xr
  | [], _ => ⟨[], trivial, rfl, fun _ _ e => by cases e⟩
  | v :: vs, hv => by
    obtain ⟨xs, t, l, _⟩ := tupsA_of (vs := vs) fun u hu => hv u (List.mem_cons_of_mem _ hu)
    obtain ⟨a, items, e1, e2, e3⟩ := hv v (List.mem_cons_self ..)
    refine ⟨items :: xs, ⟨⟨a, e1, e2⟩, t⟩, by rw [List.length_cons, List.length_cons, l], fun v0 vr e h0 => ?_⟩
    cases e
    rw [h0] at e3
    have e4 : items = #[] := by
      generalize hl : items.toList = l at e3
      cases e3
      exact Array.toList_eq_nil_iff.mp hl
    exact ⟨xs, by rw [e4]⟩
theorem TupI.keeps {h h' : Heap} {v : Value} {ns : List Int} (t : TupI h v ns) (k : ∀ b o, v = .ref b → h.get? b = some o → h'.get? b = some o) : TupI h' v ns := by
  obtain ⟨a, items, e1, ⟨o, g, r⟩, e3⟩ := t
  exact ⟨a, items, e1, ⟨o, k a o e1 g, r⟩, e3⟩
theorem tups_sortable {prog : Program} {w : World} {A : Around} {s : Shared} {a : Addr} {vs : List Value} {k : Value → List Int} (hu : A.units < cLine) (hv : ∀ v ∈ vs, TupI s.heap v (k v)) (h0 : ∃ v0 vr, vs = v0 :: vr ∧ k v0 = []) (ha : ∀ v ∈ vs, v ≠ .ref a) :
    SrtO.SortableO prog w A s a vs fun v u => HT.lexLt (k v) (k u) := by
  intro h' keep
  have hv' : ∀ v ∈ vs, TupI h' v (k v) := fun v hm => (hv v hm).keeps fun b o e g => keep b o (fun z => ha v hm (by rw [e, z])) g
  obtain ⟨v0, vr, e0, ek⟩ := h0
  obtain ⟨xs, t, _, hx⟩ := tupsA_of hv'
  obtain ⟨xr, ex⟩ := hx v0 vr e0 ek
  rw [ex] at t
  refine ⟨oneType', fun Q E hq => kind_tups (s := { s with heap := h' }) t hq, fun p q hp hq => ?_⟩
  exact lt_tups (s := { s with heap := h' }) (Q := fun r s' => s' = { s with heap := h' } ∧ r = HT.lexLt (k p.1) (k q.1)) (E := fun _ _ => False) hu (hv' p.1 hp) (hv' q.1 hq) ⟨rfl, rfl⟩
theorem cr_sortTs {n : Nat} (hr : Room n X.A) : CallR X (.builtin "sorted") (rSortTs X.K) := by
  intro pins s σ H vs us Q I r h
  obtain ⟨a, xs, k, rfl, hs, hx, ⟨x0, xr, ex, ek⟩, q⟩ := h
  obtain ⟨its, rv, hl, hz⟩ := I.list hs
  obtain ⟨u, rfl, ru⟩ := vals1 r
  obtain rfl : u = Value.ref a := ru
  obtain ⟨e1, e2⟩ := refs_back rv fun x m => by
    obtain ⟨t, e, _⟩ := hx x m
    exact ⟨t, e⟩
  have hT : ∀ v ∈ its, TupI s.heap v (k (backV v)) := fun v hv => by
    obtain ⟨t, rfl⟩ := e2 v hv
    have hm : V.ref t ∈ xs := by
      rw [e1]
      exact List.mem_map.mpr ⟨_, hv, rfl⟩
    obtain ⟨t', e, ht⟩ := hx _ hm
    cases e
    obtain ⟨_, its2, r2, it2⟩ := I.hok _ _ ht
    exact ⟨t, _, rfl, it2, r2.ints⟩
  have h0 : ∃ v0 vr, its = v0 :: vr ∧ k (backV v0) = [] := by
    rw [e1] at ex
    cases its with
    | nil => cases ex
    | cons v0 vr =>
      rw [List.map_cons] at ex
      cases ex
      exact ⟨v0, vr, rfl, ek⟩
  have hu : X.A.in1.in1.units < cLine := by
    have := hr.units
    show X.A.units + 1 + 1 < cLine
    omega
  refine SrtO.sorted_ord (NtL.swo_lexL fun v => k (backV v)) hl.isList (by rw [← rv.length]; exact hz) (fun h2 h₁ a' hS keep => ?_) fun out h1 h2 => ?_
  · refine tups_sortable (k := fun v => k (backV v)) hu (fun v hv => (hT v hv).keeps fun b o e g => (keep b o g).2) h0 fun v hv e => ?_
    obtain ⟨b, items, rfl, ⟨o, g, _⟩, _⟩ := hT v hv
    cases e
    exact (keep _ _ g).1 rfl
  · have h3 : ∀ u ∈ out, ∃ a, u = Value.ref a := fun u hu => e2 u (h2.perm.mem_iff.mp hu)
    obtain ⟨ep, he'⟩ := PyProof.Rows.sortedAll_at s.heap its out.toArray
    have hp : (out.map backV).Perm xs := by
      rw [e1]
      exact h2.perm.map backV
    have hk : (out.map backV).map k = srt leT (xs.map k) := by
      refine srt_uniq leT_tot leT_tr leT_anti (hp.map k) ?_
      rw [List.map_map]
      exact List.pairwise_map.mpr (h1.imp fun z => leT_iff.mpr z)
    refine ⟨.ref _, upd H (s.heap.objs.size + 1) (.lst (out.map backV)), I.laid (t' := s.toks) (fun _ _ => PyProof.Rows.sortedAll_old) (Nat.le_succ _) ⟨?_, out, ep, vals_back h3, he'⟩, rfl, q _ _ hp hk (I.hok.fresh (Nat.le_succ _))⟩
    rw [hp.length_eq]
    exact hz
/-! ### on data -/
def tupsD : List D → Option (List (List Int))
  | [] => some []
  | .tuple ds :: r => match intsD ds, tupsD r with
    | some ns, some nss => some (ns :: nss)
    | _, _ => none
  | _ :: _ => none
def tI (ns : List Int) : D := .tuple (ns.map .int)
theorem intsD_eq : ∀ {ds : List D} {ns : List Int}, intsD ds = some ns → ds = ns.map PyData.int
  | [], _, h => by cases h; rfl
  | d :: r, ns, h => by
    cases d <;> simp only [intsD] at h <;> first | cases h | skip
    cases h2 : intsD r with
    | none => rw [h2] at h; cases h
    | some ms =>
      rw [h2] at h
      cases h
      rw [intsD_eq h2]
      rfl
theorem tupsD_eq : ∀ {ds : List D} {nss : List (List Int)}, tupsD ds = some nss → ds = nss.map tI
  | [], nss, h => by cases h; rfl
  | d :: r, nss, h => by
    cases d <;> simp only [tupsD] at h <;> first | cases h | skip
    split at h
    · rename_i ds ns mss h1 h2
      cases h
      have e1 := intsD_eq h1
      rw [tupsD_eq h2, e1]
      rfl
    · cases h
def uSorted : D → Option D
  | .list ds => match intsD ds with
    | some ns => some (.list ((srt leI ns).map .int))
    | none => match tupsD ds with
      | some ([] :: nss) => some (.list ((srt leT ([] :: nss)).map tI))
      | _ => none
  | .tuple ds => match intsD ds with
    | some ns => some (.list ((srt leI ns).map .int))
    | none => none
  | _ => none
variable [TabSet]
theorem dq_tI {S : Hp} {x : V} {ns : List Int} (h : Dq S x (tI ns)) : ∃ t, x = .ref t ∧ S t = some (.tup (ns.map V.int)) := by
  obtain ⟨p1, v1, rfl, e1, d1⟩ := dq_tup h
  have e : intsD (ns.map PyData.int) = some ns := by
    clear h d1
    induction ns with
    | nil => rfl
    | cons n r ih =>
      rw [List.map_cons]
      simp only [intsD, ih, Option.map_some]
  exact ⟨p1, rfl, by rw [e1, dqa_ints d1 e]⟩
omit [TabSet] in
noncomputable def keyI (S : Hp) (x : V) : List Int := open Classical in if q : ∃ ns, Dq S x (tI ns) then q.choose else []
theorem ints_inj : ∀ {ns ms : List Int}, ns.map V.int = ms.map V.int → ns = ms
  | [], [], _ => rfl
  | [], _ :: _, h => by cases h
  | _ :: _, [], h => by cases h
  | n :: ns, m :: ms, h => by
    rw [List.map_cons, List.map_cons] at h
    injection h with h1 h2
    cases h1
    rw [ints_inj h2]
theorem keyI_eq {S : Hp} {x : V} {ns : List Int} (h : Dq S x (tI ns)) : keyI S x = ns := by
  unfold keyI
  have q : ∃ ns, Dq S x (tI ns) := ⟨ns, h⟩
  rw [dif_pos q]
  obtain ⟨t, e1, e2⟩ := dq_tI h
  obtain ⟨t', e3, e4⟩ := dq_tI q.choose_spec
  rw [e1] at e3
  cases e3
  rw [e2] at e4
  injection e4 with e5
  injection e5 with e6
  exact (ints_inj e6).symm
theorem keys_eq {S : Hp} : ∀ {vs : List V} {nss : List (List Int)}, DqAll S vs (nss.map tI) → vs.map (keyI S) = nss ∧ ∀ x ∈ vs, ∃ ns, Dq S x (tI ns)
  | [], [], _ => ⟨rfl, fun x hx => absurd hx (by simp)⟩
  | _ :: _, [], h => by cases h
  | [], _ :: _, h => by cases h
  | v :: vs, ns :: nss, h => by
    rw [List.map_cons] at h
    cases h with
    | cons h1 h2 =>
      obtain ⟨k1, k2⟩ := keys_eq h2
      refine ⟨by rw [List.map_cons, keyI_eq h1, k1], fun x hx => ?_⟩
      rcases List.mem_cons.mp hx with rfl | hx
      · exact ⟨ns, h1⟩
      · exact k2 x hx
theorem dqa_keys {S : Hp} : ∀ {ys : List V}, (∀ x ∈ ys, ∃ ns, Dq S x (tI ns)) → DqAll S ys ((ys.map (keyI S)).map tI)
  | [], _ => .nil
  | y :: ys, h => by
    obtain ⟨ns, h1⟩ := h y (List.mem_cons_self ..)
    rw [List.map_cons, List.map_cons]
    refine .cons ?_ (dqa_keys fun x hx => h x (List.mem_cons_of_mem _ hx))
    rw [keyI_eq h1]
    exact h1
variable {F : Fr} {f : M} {a : Expr} {pos : Pos}
theorem e_sorted {n : Nat} {pp : Pos} (hr : Room n X.A) (hm : X.mg "sorted" = none) (ha : PE X a (SX X.K F f)) (hg : Gl X "sorted" := by rfl) (he : starEach (a :: []) X.env = (false, eval a X.env) :: starEach [] X.env := by rfl) (hpl : (backTo pos (starEach [] X.env)).any (·.1) = false := by rfl) :
    PE X (.Call (.Name "sorted" pp) [a] [] pos) (SE X.K F (f1 uSorted f)) := by
  refine e_c1 (bi := .builtin "sorted") (fun r hr => pe_callB hr hg hm PyProof.Rows.boot_sorted (pa_cons ha pa_nil he) (he := he) (hpl := hpl)) fun d z hz => ?_
  have new : ∀ {S H : Hp} {p : Addr} {vs : List V} {ds : List D} {Q : VK}, Ex S H → H p = none → DqAll S vs ds → (∀ v S' H', Grow S H S' H' → Dq S' v (.list ds) → Q v H') → Q (.ref p) (upd H p (.lst vs)) := fun ex hp dv q =>
    q _ _ _ (Grow.new ex hp) (.lst upd_same (dqa_ext (Ex.new (Evl.fresh_back ex hp)) dv))
  cases d <;> simp only [uSorted] at hz <;> first | cases hz | skip
  · rename_i ds
    split at hz
    · rename_i ns h1
      cases hz
      refine ⟨_, cr_sortedI, fun S H v Q ex d1 q => ?_⟩
      obtain ⟨p1, v1, rfl, e1, d1⟩ := d1
      refine ⟨p1, ns, rfl, ?_, fun ns' p k1 k2 hp => ?_⟩
      · rw [← dqa_ints d1 h1]
        exact SqL.of e1
      · have e : ns' = srt leI ns := srt_uniq leI_tot leI_tr leI_anti k1 (k2.imp fun z => decide_eq_true z)
        rw [e]
        exact new ex hp (dqa_of_ints S _) q
    · split at hz
      · rename_i nss h2
        cases hz
        refine ⟨_, cr_sortTs hr, fun S H v Q ex d1 q => ?_⟩
        obtain ⟨p1, v1, rfl, e1, d1⟩ := d1
        rw [tupsD_eq h2] at d1
        obtain ⟨k1, k2⟩ := keys_eq d1
        refine ⟨p1, v1, keyI S, rfl, SqL.of e1, fun x hx => ?_, ?_, fun ys p y1 y2 hp => ?_⟩
        · obtain ⟨ns, hn⟩ := k2 x hx
          obtain ⟨t, t1, t2⟩ := dq_tI hn
          exact ⟨t, t1, by rw [keyI_eq hn]; exact ex _ _ t2⟩
        · cases v1 with
          | nil => cases k1
          | cons x0 xr =>
            rw [List.map_cons] at k1
            exact ⟨x0, xr, rfl, (List.cons.inj k1).1⟩
        · rw [k1] at y2
          have dy := dqa_keys (S := S) (ys := ys) fun x hx => k2 x (y1.mem_iff.mp hx)
          rw [y2] at dy
          exact new ex hp dy q
      · cases hz
  · split at hz
    · rename_i ns h1
      cases hz
      refine ⟨_, cr_sortTI, fun S H v Q ex d1 q => ?_⟩
      obtain ⟨p1, v1, rfl, e1, d1⟩ := dq_tup d1
      refine ⟨p1, ns, rfl, ?_, fun p hp => new ex hp (dqa_of_ints S _) q⟩
      rw [← dqa_ints d1 h1]
      exact SqT.of (ex _ _ e1)
    · cases hz
end
end Pd

/-! Lambdas handed to a def that tells which error they raise. -/
namespace Pd
open PySem PySem.Spec PyProof.Rows L2
open Evl (Ex)
variable [TabSet]
/-! ### an expression that may raise -/
def SR (K : PySem.W.Frag) (mg : Str → Option Value) (F : Fr) (E : XK) (fr : DE → Option (Res × DE)) : TE := fun σ H Q => ∃ S δ r δ', RSt K F S H σ δ ∧ fr δ = some (r, δ') ∧ match r with
  | .ret d => ∀ v S' H', Stp S H S' H' σ δ δ' → RSt K F S' H' σ δ' → Dq S' v d → Q v H'
  | .exc c _ => ∀ S' H' cv dd, Stp S H S' H' σ δ δ' → RSt K F S' H' σ δ' → mg c = some cv → E cv dd H'
omit [TabSet] in
def rCall (m : MF) (fa : MA) : DE → Option (Res × DE) := fun δ => match fa δ with
  | some (ds, δ') => match m ds with
    | some r => some (r, δ')
    | none => none
  | none => none
theorem r_call {X : Cx} {F : Fr} {e : Expr} {es : List Expr} {pos p : Pos} {fa : MA} {x : Str} {k : Nat} {m : MF} {E : XK} (tk : Takes X (fun cls d _ H => E cls d H)) (D0 : DefOk X.prog X.w X.K X.mg X.base x k (spF X.mg m)) (hr : Room k X.A) (ha : PA X (e :: es) (SA X.K F fa)) (hg : Gl X x := by rfl) (hdb : (x == ("__debug__" : Str)) = false := by decide)
    (he : starEach (e :: es) X.env = (false, eval e X.env) :: starEach es X.env := by rfl) (hpl : (backTo pos (starEach es X.env)).any (·.1) = false := by rfl) :
    PE X (.Call (.Name x p) (e :: es) [] pos) (SR X.K X.mg F E (rCall m fa)) := by
  obtain ⟨fn, fd, ps, FO, hm, hk, hb⟩ := D0.ex
  refine ⟨fun pins s σ H Q I hw => (pe_callS FO hr hg hm hk hb (fun σ => passAt tk σ) ha hdb he hpl).run pins s σ H Q I ?_⟩
  obtain ⟨S, δ, r, δ', R, hf, q⟩ := hw
  unfold rCall at hf
  split at hf
  · rename_i ds δ1 h1
    refine ⟨S, δ, ds, δ1, R, h1, fun vs S1 H1 s1 R1 d1 => ?_⟩
    split at hf
    · rename_i r0 h2
      cases hf
      refine ⟨S1, ds, _, R1.sub, d1, h2, ?_⟩
      cases r with
      | ret d => exact fun v S2 H2 g2 d2 => q v S2 H2 (s1.trans (Stp.grow g2)) (R1.grow g2) d2
      | exc c p =>
        cases p with
        | none => exact fun S2 H2 cv g2 hc => q S2 H2 cv none (s1.trans (Stp.grow g2)) (R1.grow g2) hc
        | some p => exact fun S2 H2 cv dd g2 hc h0 hdd => q S2 H2 cv (some dd) (s1.trans (Stp.grow g2)) (R1.grow g2) hc
    · cases hf
  · cases hf
/-! ### the def that tells -/
omit [TabSet] in
def wHands (K : PySem.W.Frag) (Q : VK) : List (Value × Str) → XK
  | [] => fun _ _ _ => False
  | (c, ret) :: r => fun cls d H => ∃ b, PySem.W.exmOne K cls c = some b ∧ (b = true → Q (.str ret) H) ∧ (b = false → wHands K Q r cls d H)
omit [TabSet] in
def TTm (K : PySem.W.Frag) (l : List (Value × Str)) (dflt : Str) : (XK → Hp → VK → Prop) → Hp → VK → Prop := fun tl H Q => tl (wHands K Q l) H fun _ H' => Q (.str dflt) H'
omit [TabSet] in
def tStr (ret : Str) : Addr → Value → Option Addr → TS := fun _ _ _ => tRet (tC (.str ret))
omit [TabSet] in
theorem hd_cons {Z : Cx} {x ret : Str} {c : Value} {j : Nat} {np p5 p6 p7 : Pos} {hds : List ExceptHandler} {l : List (Value × (Addr → Value → Option Addr → TS))} (hc : Names Z x c) (r : HdsOk Z hds l) :
    HdsOk Z (.ExceptHandler (some (.Name x np)) none [.Return (some (.Constant (.str ret) j p5)) p6] p7 :: hds) ((c, tStr ret) :: l) :=
  .cons hc (fun a oe cls d pn _ _ => pss_one (ps_ret pe_str)) r
omit [TabSet] in
theorem many_hands {K : PySem.W.Frag} {D : Ends} {Q : VK} (hQ : ∀ v H, Q v H → D.rt v H) {σ : L2.St} : ∀ (l : List (Value × Str)) (cls : Value) (d : Option Addr) (H : Hp), wHands K Q l cls d H → wMany K (fun _ _ _ _ => False) D (l.map fun p => (p.1, tStr p.2)) cls d σ H
  | [], _, _, _, h => h
  | (c, ret) :: r, cls, d, H, ⟨b, h1, h2, h3⟩ => ⟨b, h1, fun e _ _ => hQ _ _ (h2 e), fun e => many_hands hQ r cls d H (h3 e)⟩
omit [TabSet] in
/-- try: a() / except ..: return .. / return dflt -/
theorem told_many {X : Cx} {Ng : List Str} {x a q dflt : Str} {sg : Scope} {g : Addr} {cdg : Value} {h0 : ExceptHandler} {hds : List ExceptHandler} {l : List (Value × Str)} {j : Nat} {p1 p2 p3 p5 p6 p8 : Pos}
    (all : ∀ (s : Shared) (H : Hp), HdsOk (cxOf C8.CX0 X.prog X.w X.K X.mg X.base Ng x sg g cdg X.A X.stack s H C8.E0).nox (h0 :: hds) (l.map fun p => (p.1, tStr p.2)))
    (hs0 : ∀ f : Addr, (L2.start Ng [V.ref f])[0]? = some (some (V.ref f)))
    (hsw : ∀ env : Env, swapsWith (.Call (.Name a p1) [] [] p2) none p3.line env = pure false := by intro _; rfl) :
    LamX.GivesTo X Ng x sg g cdg [.Try [.Expr (.Call (.Name a p1) [] [] p2) p3] (h0 :: hds) [] [] p8, .Return (some (.Constant (.str dflt) j p5)) p6] a q (TTm X.K l dflt) := by
  intro f c' s H Q tl act hc h
  refine ⟨_, pss_cons (ps_try_many (X := (cxOf C8.CX0 X.prog X.w X.K X.mg X.base Ng x sg g cdg X.A X.stack s H C8.E0).nox) (Wout := fun _ _ _ _ => False)
      (tb := fun W D σ H => ∃ Ech : XK, (∀ cls d σ' H', Ech cls d H' → W cls d σ' H') ∧ σ[0]? = some (some (.ref f)) ∧ H c' = some (LamX.CodeO c' q) ∧ tl Ech H (fun _ H' => D.nx σ H'))
      rfl rfl LamX.takes0 (fun W pn xe tk _ => ?_) (all s H)) (pss_one (ps_ret pe_str)), ?_⟩
  · refine ⟨fun pins s' σ H' D I h' => ?_⟩
    obtain ⟨Ech, hW, h1, h2, h3⟩ := h'
    have hp := act W pn xe Ech p1 p2 tk hW
    exact (pss_one (ps_expr (pos := p3) hp (hsw _))).run pins s' σ H' D I ⟨h1, h2, h3⟩
  · exact ⟨wHands X.K Q l, fun cls d σ' H' z => many_hands (fun _ _ z => z) l cls d H' z, hs0 f, hc, h⟩
/-- the def's code object at c, its table at P, the lambdas' name -/
structure LamAt (base : Heap) (mg : Str → Option Value) (c P : Addr) (q : Str) : Prop where
  tb : LamX.TabB base mg c P
  mem : (P, q) ∈ TabSet.T
  uq : ∀ p ∈ TabSet.T, p.1 = P → p.2 = q
/-- which class is caught by which clause -/
structure MtOk (K : PySem.W.Frag) (mg : Str → Option Value) (mt : Str → Str → Option Bool) : Prop where
  ok : ∀ c h b, mt c h = some b → ∃ cv C, mg c = some cv ∧ mg h = some C ∧ PySem.W.exmOne K cv C = some b
omit [TabSet] in
def pick (mt : Str → Str → Option Bool) (c : Str) : List (Str × Str) → Option Str
  | [] => none
  | (h, r) :: rest => match mt c h with
    | some true => some r
    | some false => pick mt c rest
    | none => none
omit [TabSet] in
def fTold (mt : Str → Str → Option Bool) (hands : List (Str × Str)) (dflt : Str) (fr : DE → Option (Res × DE)) : M := fun δ => match fr δ with
  | some (.ret _, δ') => some (.str dflt, δ')
  | some (.exc c _, δ') => match pick mt c hands with
    | some r => some (.str r, δ')
    | none => none
  | none => none
omit [TabSet] in
def HandsAt (mg : Str → Option Value) : List (Str × Str) → List (Value × Str) → Prop
  | [], [] => True
  | (h, r) :: a, (c, s) :: b => mg h = some c ∧ r = s ∧ HandsAt mg a b
  | _, _ => False
omit [TabSet] in
theorem pick_hands {K : PySem.W.Frag} {mg : Str → Option Value} {mt : Str → Str → Option Bool} {Q : VK} {c ret : Str} {cv : Value} {dd : Option Addr} {H : Hp} (M0 : MtOk K mg mt) (hc : mg c = some cv) (hq : Q (.str ret) H) :
    ∀ (hands : List (Str × Str)) (l : List (Value × Str)), HandsAt mg hands l → pick mt c hands = some ret → wHands K Q l cv dd H
  | [], _, _, h => by cases h
  | (h, r) :: a, [], z, _ => z.elim
  | (h, r) :: a, (C, s) :: b, ⟨z1, z2, z3⟩, e => by
    subst z2
    unfold pick at e
    split at e
    · rename_i e1
      cases e
      obtain ⟨cv', C', k1, k2, k3⟩ := M0.ok _ _ _ e1
      rw [hc] at k1
      rw [z1] at k2
      cases k1
      cases k2
      exact ⟨true, k3, fun _ => hq, fun z => (by cases z)⟩
    · rename_i e1
      obtain ⟨cv', C', k1, k2, k3⟩ := M0.ok _ _ _ e1
      rw [hc] at k1
      rw [z1] at k2
      cases k1
      cases k2
      exact ⟨false, k3, fun z => (by cases z), fun _ => pick_hands M0 hc hq a b z3 e⟩
    · cases e
theorem RSt.tabled {K : PySem.W.Frag} {F : Fr} {S H H1 : Hp} {σ : L2.St} {δ : DE} (R : RSt K F S H σ δ) (t0 : tabs F.S0 F.H0) (eN : LamX.ExtN H H1) (t1 : LamX.Tabs TabSet.T H1) (dm : ∀ b o, H b = some o → ∃ o', H1 b = some o') : RSt K F S H1 σ δ ∧ Stp S H S H1 σ δ δ := by
  have ht := R.tb0 t0
  have up : ∀ b o, S b = some o → H1 b = some o := fun b o h => eN b o (R.sub b o h) (ht.2 b o h)
  refine ⟨⟨up, fun b o h nt n => eN b o (R.base b o h nt n) nt, fun b o h => ?_, fun _ => ⟨t1, ht.2⟩, R.s0, R.out, fun b h => ?_, R.len, fun i x s h1 h2 => ?_, R.sep, R.pin⟩, ⟨Ex.refl S, fun _ _ _ => rfl, fun b o h nt _ => eN b o h nt, dm, fun _ xs h => ⟨xs, h⟩, fun t => ⟨t1, t.2⟩⟩⟩
  · obtain ⟨o', h'⟩ := R.dom0 b o h
    exact dm b o' h'
  · obtain ⟨o, h'⟩ := R.iop b h
    exact dm b o h'
  · have z := R.slot i x s h1 h2
    cases s with
    | no => trivial
    | sh d => exact z
    | scr ns => exact z
    | ow xs =>
      obtain ⟨a, vs, k1, k2, k3, k4, k5⟩ := z
      exact ⟨a, vs, k1, k2, k3, eN _ _ k4 (ob_nt k5), k5⟩
/-! ### the lambda made: what was there is there -/
omit [TabSet] in
theorem lam_made {X : Cx} {pins : List (Addr × Obj)} {σ : L2.St} {H : Hp} {s : Shared} {T : List (Addr × Str)} {c P : Addr} {q : Str} {params : Arguments} {body : Expr} {scope : Scope} {pos : Pos} {E : Value → Shared → Prop} {Q : Value → Shared → Prop}
    (hq : X.env.qual ++ "<lambda>" = q) (I : Inv X pins σ H s) (TB : LamX.TabB X.base X.mg c P) (hcode : X.env.code = .ref c)
    (hm : (P, q) ∈ T) (hu : ∀ p ∈ T, p.1 = P → p.2 = q) (hT : LamX.Tabs T H) (hdef : defaultsOf params X.env = ([], [])) (hfree : ∀ y ∈ scope.names, y.2 = .free → ∃ c, X.env.cells.lookup y.1 = some c)
    (h : ∀ (f c' : Addr) (pm ctv : Value) (H1 : Hp) (s' : Shared), Inv X pins σ H1 s' → LamX.ExtN H H1 → LamX.Tabs T H1 → (∀ b o, H b = some o → ∃ o', H1 b = some o') →
      s'.heap.get? f = some (PySem.W.kla_obj "<lambda>" q params body scope (cloFrom X.env.cells scope.names []) pm c' ctv) → H1 f = none → f ∉ frs X.stack → H1 c' = some (LamX.CodeO c' q) → Q (.ref f) s') :
    wpAny (model X.prog X.w) X.A (eval (.Lambda params body scope pos) X.env) Q E s := by
  subst hq
  have frame : ∀ g, s.heap.objs.size ≤ g → g ∉ frs X.stack := fun g hg z => (List.mem_cons.mp (I.stkSub _ z)).elim (fun e => Nat.lt_irrefl _ (Nat.lt_of_lt_of_le (by rw [e]; exact I.lt) hg)) (fun e => I.nofs hg e)
  obtain ⟨ps, tH, tr, tn⟩ := hT _ hm
  have bi := TB.bm.keeps I.bk
  have cd := TB.code.keeps I.bk
  have gl := I.mod.glob.keeps I.bk
  have tG : s.heap.get? P = some { cls := .none, data := .fields ps } := I.hok P _ tH
  refine PySem.W.kla_eval hdef ?_
  cases found : codeAmong pos ps.toList with
  | some cv =>
    obtain ⟨c', rfl, hco⟩ := tn pos cv found
    refine PySem.W.kla_makeFunctionHit (mg := X.mg) (c := c) (P := P) (ps := ps) (closure_ok hfree) I.ok.glob gl hcode cd tG tr found bi fun ctv h' tk hx hsz => ?_
    refine h h'.objs.size c' ((X.mg "__name__").getD .none) ctv H _ (I.kept fun b o e => Heap.get?_push_of_some _ (hx b o e)) (LamX.ExtN.refl H) hT (fun b o e => ⟨o, e⟩) (Heap.get?_push_size _ rfl) (I.hok.fresh hsz) (frame _ hsz) hco
  | none =>
    refine PySem.W.kla_makeFunction (mg := X.mg) (c := c) (P := P) (ps := ps) (closure_ok hfree) I.ok.glob gl hcode cd tG tr found TB.gP bi fun c' ctv h' tk hx hge hlt hrec htb => ?_
    obtain ⟨c2, oc, vs, t, e2, hoc, hd, hv⟩ := hrec
    cases e2
    have big : s.heap.objs.size ≤ h'.objs.size := by omega
    have fc : H c' = none := I.hok.fresh hge
    have stay : LamX.ExtN H (upd (upd H P (.tbl (ps ++ #[rawInt pos.line, rawInt pos.col, .ref c']))) c' (LamX.CodeO c' (X.env.qual ++ "<lambda>"))) := fun b o e n => by
      have b1 : b ≠ c' := ne_of_none e fc
      have b2 : b ≠ P := fun z => by
        subst z
        rw [tH] at e
        cases e
        exact n ps rfl
      rw [upd_ne b1, upd_ne b2]
      exact e
    have lst : (ps ++ #[rawInt pos.line, rawInt pos.col, .ref c']).toList = ps.toList ++ [rawInt pos.line, rawInt pos.col, .ref c'] := by simp
    refine h h'.objs.size c' ((X.mg "__name__").getD .none) ctv _ _
      (LamX.inv_table (t' := tk) (more := #[rawInt pos.line, rawInt pos.col, .ref c']) (h' := h'.push (PySem.W.kla_obj "<lambda>" (X.env.qual ++ "<lambda>") params body scope (cloFrom X.env.cells scope.names []) ((X.mg "__name__").getD .none) c' ctv)) I tH
        (fun b o hb e => Heap.get?_push_of_some _ (hx b o hb e)) (Heap.get?_push_of_some _ htb) hge ⟨oc, vs, t, Heap.get?_push_of_some _ hoc, hd, hv⟩)
      stay (fun p hp => ?_) (fun b o e => ?_) (Heap.get?_push_size _ rfl) ?_ (frame _ big) upd_same
    · obtain ⟨ps', a1, a2, a3⟩ := hT p hp
      by_cases hb : p.1 = P
      · rw [hu p hp hb, hb]
        refine ⟨_, (upd_ne (ne_of_none tH fc)).trans upd_same, by rw [lst]; exact PySem.TriplesOk_snoc _ _ _ _ tr, fun p' cv hcv => ?_⟩
        rw [lst] at hcv
        refine (LamX.among_app _ tr hcv).elim (fun z => ?_) (fun z => ⟨c', z, upd_same⟩)
        obtain ⟨c0, e1, e2⟩ := tn p' cv z
        exact ⟨c0, e1, stay _ _ e2 LamX.codeO_ne⟩
      · refine ⟨ps', (upd_ne (ne_of_none a1 fc)).trans ((upd_ne hb).trans a1), a2, fun p' cv hcv => ?_⟩
        obtain ⟨c0, e1, e2⟩ := a3 p' cv hcv
        exact ⟨c0, e1, stay _ _ e2 LamX.codeO_ne⟩
    · by_cases hb : b = P
      · subst hb
        exact ⟨_, (upd_ne (ne_of_none e fc)).trans upd_same⟩
      · exact ⟨o, (upd_ne (ne_of_none e fc)).trans ((upd_ne hb).trans e)⟩
    · refine (upd_ne (Nat.ne_of_gt hlt)).trans ((upd_ne ?_).trans (I.hok.fresh big))
      exact Nat.ne_of_gt (Nat.lt_of_lt_of_le (Heap.lt_size tG) big)
omit [TabSet] in
/-- x(lambda: body), x the def that tells -/
theorem pe_told {X : Cx} {T : List (Addr × Str)} {TT : (XK → Hp → VK → Prop) → Hp → VK → Prop} {x a q : Str} {st : Stmt} {c P : Addr} {k : Nat} {Ng : List Str} {params : Arguments} {body : Expr} {scope : Scope} {t : XK → TE} {p lpos pos : Pos}
    (FA : FunAt X.K X.mg x st [a]) (hg : Gl X x) (Sg : FnScope Ng [a] (defScope st)) (hNg : Ng[0]? = some a) (hva : Vis (defScope st) a)
    (hG : ∀ g cdv, LamX.GivesTo X Ng x (defScope st) g cdv (defBody st) a q TT) (hq : X.env.qual ++ "<lambda>" = q)
    (TB : LamX.TabB X.base X.mg c P) (hcode : X.env.code = .ref c) (hmT : (P, q) ∈ T) (hu : ∀ p ∈ T, p.1 = P → p.2 = q) (hr : Room (k + 2) X.A) (L : LamX.LamS X.env.scope scope) (hdef : defaultsOf params X.env = ([], []))
    (hbind : ∀ (q : Str) (cl : List (Str × Addr)) (pm cv ctv : Value), bindArgs (PySem.W.kla_fn "<lambda>" q params body scope cl pm cv ctv) ⟨[], []⟩ = pure [])
    (hbody : ∀ (A : Around) (outer : List Env) (s : Shared) (H : Hp) (E : XK) (f c' : Addr), Room k (A.deeper (LamX.lamEnv X scope s.heap.objs.size f c')) → PE (LamX.lamCx X A outer s H E scope f c') body (t E))
    (hdb : (x == ("__debug__" : Str)) = false := by decide) (hd : (a == ("__debug__" : Str)) = false := by decide) (hcd : (a == ("__classdict__" : Str)) = false := by decide) :
    PE X (.Call (.Name x p) [.Lambda params body scope lpos] [] pos) (fun σ H Q => LamX.Tabs T H ∧ ∀ H1, LamX.ExtN H H1 → LamX.Tabs T H1 → (∀ b o, H b = some o → ∃ o', H1 b = some o') → TT (fun E H' Q' => t E σ H' Q') H1 Q) := by
  subst hq
  obtain ⟨g, fd, ⟨⟨oc, od, kV, doc, pm, an, cdv, ct, osl, rfl, lk, hcg⟩, hk⟩, hm, hb⟩ := FA.ex
  refine ⟨fun pins s σ H Q I ⟨hT, h⟩ => wpAny_Call_Name_kw (ld_glob I hg hm (PySem.W.callWith_K (h₀ := X.base) I.ok.mod.kin hk ?_ (by rfl) (by rfl)) hdb)⟩
  refine Calls.spliced_cons (s := s) (lam_made (T := T) rfl I TB hcode hmT hu hT hdef (L.has I.ok) fun f c' pm' ctv H1 s' I1 eN T1 dm hf hfn hfr hco => Calls.spliced_nil ⟨I1.kIn, wpAny_call ?_⟩)
  have rc : codeAny (model X.prog X.w) X.A (.call (.ref g) ⟨[.ref f], []⟩) (CR C8.CX0 X.stack X.prog X.w H1 s' Q C8.E0) s' :=
    LamX.run_ofS (N := Ng) (ps := [a]) (us := [.ref f]) (vs := [.ref f]) lk hcg Sg hr I1.env0 (hb s' [.ref f] I1.kIn rfl) (.cons rfl .nil) rfl fun hr' => by
      obtain ⟨t', ht', hq'⟩ := hG g cdv f c' s' H1 Q (fun E H' Q' => t E σ H' Q') (fun W pn xe E p1 p2 tk hW => LamX.pe_act (i := 0) I1 L hf hfn hfr (hbind _ _ _ _ _) tk hW hr' (fun A outer s H hr2 => hbody A outer s H E f c' hr2) hNg hva hd hcd) hco (h H1 eN T1 dm)
      exact ⟨t', ht'.nox, hq'⟩
  refine codeAny_mono rc fun r s2 z => ?_
  cases r with
  | error e => exact (show False from z).elim
  | ok fl =>
    cases fl with
    | ret u => exact I1.after z
    | next => exact False.elim z
    | brk => exact False.elim z
    | cont => exact False.elim z
theorem e_lam {X : Cx} {F : Fr} {x a q dflt : Str} {st : Stmt} {c P : Addr} {k : Nat} {Ng : List Str} {params : Arguments} {body : Expr} {scope : Scope} {p lpos pos : Pos} {fr : DE → Option (Res × DE)} {mt : Str → Str → Option Bool} {hands : List (Str × Str)} {l : List (Value × Str)}
    (t0 : tabs F.S0 F.H0) (M0 : MtOk X.K X.mg mt) (HA : HandsAt X.mg hands l) (FA : FunAt X.K X.mg x st [a]) (Sg : FnScope Ng [a] (defScope st))
    (hG : ∀ g cdv, LamX.GivesTo X Ng x (defScope st) g cdv (defBody st) a q (TTm X.K l dflt)) (LA : LamAt X.base X.mg c P q) (hr : Room (k + 2) X.A)
    (hbody : ∀ (A : Around) (outer : List Env) (s : Shared) (H : Hp) (E : XK) (f c' : Addr), Room k (A.deeper (LamX.lamEnv X scope s.heap.objs.size f c')) → PE (LamX.lamCx X A outer s H E scope f c') body (SR X.K X.mg F E fr))
    (hq : X.env.qual ++ "<lambda>" = q := by rfl) (hcode : X.env.code = .ref c := by rfl) (hg : Gl X x := by rfl) (hNg : Ng[0]? = some a := by rfl) (hva : Vis (defScope st) a := by first | exact Or.inl rfl | exact Or.inr (Or.inl rfl) | exact Or.inr (Or.inr rfl))
    (L : LamX.LamS X.env.scope scope := by exact LamX.lamS_by (by rfl)) (hdef : defaultsOf params X.env = ([], []) := by rfl)
    (hbind : ∀ (q : Str) (cl : List (Str × Addr)) (pm cv ctv : Value), bindArgs (PySem.W.kla_fn "<lambda>" q params body scope cl pm cv ctv) ⟨[], []⟩ = pure [] := by intros; rfl)
    (hdb : (x == ("__debug__" : Str)) = false := by decide) (hd : (a == ("__debug__" : Str)) = false := by decide) (hcd : (a == ("__classdict__" : Str)) = false := by decide) :
    PE X (.Call (.Name x p) [.Lambda params body scope lpos] [] pos) (SE X.K F (fTold mt hands dflt fr)) := by
  refine pe_of fun S δ d δ' σ H Q R hf qq => ⟨_, pe_told FA hg Sg hNg hva hG hq LA.tb hcode LA.mem LA.uq hr L hdef hbind hbody hdb hd hcd, (R.tb0 t0).1, fun H1 eN t1 dm => ?_⟩
  obtain ⟨R1, s1⟩ := R.tabled t0 eN t1 dm
  unfold fTold at hf
  split at hf
  · rename_i d0 δ1 h1
    cases hf
    exact ⟨S, δ, _, _, R1, h1, fun v S2 H2 s2 R2 _ => qq _ S2 H2 (s1.trans s2) R2 (.str dflt)⟩
  · rename_i c0 p0 δ1 h1
    split at hf
    · rename_i r0 h2
      cases hf
      exact ⟨S, δ, _, _, R1, h1, fun S2 H2 cv dd s2 R2 hc => pick_hands M0 hc (qq _ S2 H2 (s1.trans s2) R2 (.str r0)) hands l HA h2⟩
    · cases hf
  · cases hf
end Pd

/-! The law itself; facts as lists. -/
namespace Pd
open PySem PySem.Spec PyProof.Rows L2
open Evl (Ex)
def hv (mg : Str → Option Value) (hands : List (Str × Str)) : List (Value × Str) := hands.map fun p => ((mg p.1).getD .none, p.2)
theorem getD_some {mg : Str → Option Value} {x : Str} (h : ∃ c, mg x = some c) : mg x = some ((mg x).getD .none) := by
  obtain ⟨c, e⟩ := h
  rw [e]
  rfl
def KnownAt (mg : Str → Option Value) : List (Str × Str) → Prop
  | [] => True
  | p :: r => (∃ c, mg p.1 = some c) ∧ KnownAt mg r
theorem hands_at {mg : Str → Option Value} : ∀ {hands : List (Str × Str)}, KnownAt mg hands → HandsAt mg hands (hv mg hands)
  | [], _ => trivial
  | (h, r) :: a, ⟨z1, z2⟩ => ⟨getD_some z1, rfl, hands_at z2⟩
def mtOf (tab : List ((Str × Str) × Bool)) (c h : Str) : Option Bool := (tab.find? fun p => p.1.1 == c && p.1.2 == h).map (·.2)
def FactsAt (K : PySem.W.Frag) (mg : Str → Option Value) : List ((Str × Str) × Bool) → Prop
  | [] => True
  | p :: r => (∃ cv C, mg p.1.1 = some cv ∧ mg p.1.2 = some C ∧ PySem.W.exmOne K cv C = some p.2) ∧ FactsAt K mg r
theorem facts_mem {K : PySem.W.Frag} {mg : Str → Option Value} : ∀ {tab : List ((Str × Str) × Bool)}, FactsAt K mg tab → ∀ p ∈ tab, ∃ cv C, mg p.1.1 = some cv ∧ mg p.1.2 = some C ∧ PySem.W.exmOne K cv C = some p.2
  | q :: r, ⟨z1, z2⟩, p, hp => by
    rcases List.mem_cons.mp hp with rfl | hp
    · exact z1
    · exact facts_mem z2 p hp
theorem mt_ok {K : PySem.W.Frag} {mg : Str → Option Value} {tab : List ((Str × Str) × Bool)} (h : FactsAt K mg tab) : MtOk K mg (mtOf tab) := ⟨fun c x b e => by
  unfold mtOf at e
  cases hf : tab.find? (fun p => p.1.1 == c && p.1.2 == x) with
  | none =>
    rw [hf] at e
    cases e
  | some p =>
    rw [hf] at e
    cases e
    have h1 := List.find?_some hf
    rw [Bool.and_eq_true] at h1
    have e1 : p.1.1 = c := eq_of_beq h1.1
    have e2 : p.1.2 = x := eq_of_beq h1.2
    have h2 := facts_mem h p (List.mem_of_find?_eq_some hf)
    rw [e1, e2] at h2
    exact h2⟩
variable [TabSet]
/-! ### the law -/
omit [TabSet] in
def mOfL (n : Nat) (body : MS) (ns : List Int) : Option D := match body (.scr ns :: List.replicate (n - 1) .no) with
  | some (.rt d _) => some d
  | _ => none
def spL (K : PySem.W.Frag) (m : List Int → Option D) : Sp := fun vs H Q _ => ∃ S a ns d, vs = [.ref a] ∧ Ex S H ∧ tabs S H ∧ SqL K S a (ns.map V.int) ∧ m ns = some d ∧ ∀ v S' H', Dq S' v d → Q v H'
section
variable {P : Program} {w : World} {K : PySem.W.Frag} {mg : Str → Option Value} {base : Heap}
theorem law_fn {x p : Str} {st : Stmt} {N : List Str} {n k : Nat} {body : MS} {f c : Addr} {oc : Value} {od an : Option Addr} {osl : Array (Option Value)} {kV doc pm ct : Value}
    (lk : K.lookup f = some ⟨oc, od, .func (PySem.W.fnOf x x (defArgs st) (defBody st) (defScope st) .none kV doc pm an (.ref c) ct), osl⟩) (hcd : PySem.W.codeIn K (.ref c) x = true) (Sc : FnScope N [p] (defScope st)) (hn : N.length = n) (h1 : 1 ≤ N.length)
    (hb : ∀ (A : Around) (outer : List Env) (s : Shared) (H : Hp) (E : XK) (F : Fr), tabs F.S0 F.H0 → Room k (A.deeper (envOfC x (defScope st) s.heap.objs.size f (.ref c))) →
      PSs (cxOf (L2.CX P w) P w K mg base N x (defScope st) f (.ref c) A outer s H E) (defBody st) (SS K mg F (fun cls d _ H => E cls d H) body)) :
    FnOk P w K mg base (L2.CX P w) (k + 1) f (PySem.W.fnOf x x (defArgs st) (defBody st) (defScope st) .none kV doc pm an (.ref c) ct) [p] (spL K (mOfL n body)) := by
  subst hn
  refine fn_of lk hcd Sc (fun vs H Q E h => ?_) fun A outer s H vs Q E hr h => ?_
  · obtain ⟨S, a, ns, d, rfl, _⟩ := h
    rfl
  · obtain ⟨S, a, ns, d, rfl, ex, t0, hq, hm, q⟩ := h
    refine ⟨_, hb A outer s H E ⟨H, S, none⟩ t0 hr, ?_⟩
    unfold mOfL at hm
    split at hm
    · rename_i d0 δ' hbd
      cases hm
      exact ⟨S, _, _, start_scr rfl ex hq h1 rfl, hbd, fun v σ' S' H' _ _ dv => q v S' H' dv⟩
    · cases hm
end
end Pd
namespace Pd
open PySem PySem.Spec PyProof.Rows L2
open Evl (Ex)
section
variable {K : PySem.W.Frag} {mg : Str → Option Value} {h : Heap}
theorem funAt_of {x : Str} {st : Stmt} {ps : List Str} {f : Addr} {oc : Value} {od an : Option Addr} {osl : Array (Option Value)} {kV doc pm cdv ct : Value} (KX : K.In h) (G : h.Ns mainGlobals mg) (a : PySem.W.nsIn K mainGlobals x = some (some (.ref f)))
    (l : K.lookup f = some ⟨oc, od, .func (PySem.W.fnOf x x (defArgs st) (defBody st) (defScope st) .none kV doc pm an cdv ct), osl⟩) (c : PySem.W.codeIn K cdv x = true) (k : PySem.W.keepIn K (.ref f) = true)
    (hb : ∀ (kV doc pm : Value) (an : Option Addr) (cdv ct : Value) (us : List Value), us.length = ps.length → bindArgs (PySem.W.fnOf x x (defArgs st) (defBody st) (defScope st) .none kV doc pm an cdv ct) ⟨us, []⟩ = pure (ps.zip us)) : FunAt K mg x st ps :=
  ⟨⟨f, _, fun_mk l c k, PySem.W.mg_of KX G a, (fun_mk l c k).binds hb⟩⟩
theorem excOk_of {x : Str} {C : Addr} (KX : K.In h) (G : h.Ns mainGlobals mg) (a : PySem.W.nsIn K mainGlobals x = some (some (.ref C))) (e : PySem.W.excIn K C [.type "ValueError", .type "Exception", .type "BaseException", .type "object"] "ValueError.__new__" = true) (k : PySem.W.keepIn K (.ref C) = true)
    (s : PySem.W.subIn K (.ref C) (.type "BaseException") = some true) (t : PySem.W.typeIn K (.ref C) = some (.type "type")) : ExcOk K mg x := ⟨⟨C, PySem.W.mg_of KX G a, e, k, s, t⟩⟩
theorem known_of {x : Str} {C : Addr} (KX : K.In h) (G : h.Ns mainGlobals mg) (a : PySem.W.nsIn K mainGlobals x = some (some (.ref C))) : ∃ c, mg x = some c := ⟨_, PySem.W.mg_of KX G a⟩
theorem match_of {x y : Str} {C D : Addr} {b : Bool} (KX : K.In h) (G : h.Ns mainGlobals mg) (a : PySem.W.nsIn K mainGlobals x = some (some (.ref C))) (a' : PySem.W.nsIn K mainGlobals y = some (some (.ref D))) (e : PySem.W.exmOne K (.ref C) (.ref D) = some b) :
    ∃ cv C, mg x = some cv ∧ mg y = some C ∧ PySem.W.exmOne K cv C = some b := ⟨_, _, PySem.W.mg_of KX G a, PySem.W.mg_of KX G a', e⟩
def noTbl (H : Hp) : Hp := fun b => match H b with
  | some (.tbl _) => none
  | o => o
theorem noTbl_of {H : Hp} {b : Addr} {o : HO} : noTbl H b = some o → H b = some o ∧ ∀ ps, o ≠ .tbl ps := by
  unfold noTbl
  intro e
  split at e
  · cases e
  · rename_i n
    exact ⟨e, fun ps z => n ps (by rw [e, z])⟩
theorem noTbl_at {H : Hp} {b : Addr} {o : HO} (e : H b = some o) (n : ∀ ps, o ≠ .tbl ps) : noTbl H b = some o := by
  unfold noTbl
  split
  · rename_i ps z
    rw [e] at z
    cases z
    exact absurd rfl (n ps)
  · exact e
theorem law_start [TabSet] {H : Hp} {a : Addr} {ns : List Int} {m : List Int → Option D} {E : XK} (hT : ∀ p ∈ TabSet.T, H p.1 = some (.tbl #[])) (hS : SqL K H a (ns.map V.int)) (hm : m ns = some (.bool true)) : spL K m [.ref a] H (fun v _ => v = .bl true) E := by
  refine ⟨noTbl H, a, ns, .bool true, rfl, fun b o e => (noTbl_of e).1, ⟨fun p hp => LamX.TabS.nil (hT p hp), fun b o e => (noTbl_of e).2⟩, ?_, hm, fun v S' H' dv => by cases dv; rfl⟩
  rcases hS with (z | z) | z
  · exact .inl (.inl (noTbl_at z nt_lst))
  · obtain ⟨o, z⟩ := z
    exact .inl (.inr ⟨o, noTbl_at z fun ps q => by cases q⟩)
  · exact .inr z
theorem no_cx {P : Program} {w : World} (H : Hp) (s : Shared) (e : Value) (s' : Shared) (h : L2.CX P w [] H s (fun _ _ _ => False) e s') : False := by
  obtain ⟨_, _, _, _, _, _, _, _, _, _, _, _, z⟩ := h
  exact z.elim
theorem global_of {x : Str} {i : Int} {u : Value} (KX : K.In h) (G : h.Ns mainGlobals mg) (a : PySem.W.nsIn K mainGlobals x = some (some u)) (r : RelV (.int i) u) : ∃ u, mg x = some u ∧ RelV (.int i) u := ⟨u, PySem.W.mg_of KX G a, r⟩
end
end Pd

/-! New lists by an operator. -/
namespace Pd
open PySem PySem.Spec PyProof.Rows L2
open Evl (Ex)
variable [TabSet]
section
variable {X : Cx} {F : Fr} {a b : Expr} {pos : Pos} {f g : M}
omit [TabSet] in
def lMul (f g : M) : MA := fun δ => match f δ with
  | some (.list xs, δ1) => match g δ1 with
    | some (.int k, δ2) => if 0 ≤ k ∧ k ≤ 1000 ∧ xs.length ≤ 100 then some ((List.replicate k.toNat xs).flatten, δ2) else none
    | _ => none
  | _ => none
/-- xs * k, the list kept as one's own -/
theorem f_mulL (ha : PE X a (SE X.K F f)) (hb : PE X b (SE X.K F g)) : PE X (.BinOp a .Mult b pos) (SF X.K F (lMul f g)) := by
  refine pf_of fun S δ ds δ' σ H Q R hf q => ⟨_, pe_op op_rep ha hb, ?_⟩
  unfold lMul at hf
  split at hf
  · rename_i xs δ1 h1
    split at hf
    · rename_i k δ2 h2
      split at hf
      · rename_i hc
        obtain ⟨c1, c2, c3⟩ := hc
        cases hf
        refine ⟨S, δ, _, δ1, R, h1, fun v S1 H1 s1 R1 d1 => ⟨S1, δ1, _, _, R1, h2, fun w S2 H2 s2 R2 d2 => ?_⟩⟩
        obtain ⟨p1, v1, rfl, e1, d1⟩ := dq_list d1
        have e2 := s2.s _ _ e1
        have d3 := dqa_ext s2.s d1
        have hlen := dqa_len d3
        refine ⟨p1, _, v1, rfl, dq_int d2, R2.sub _ _ e2, by omega, by omega, sz_of ?_, fun p hp => ?_⟩
        · rw [hlen]
          exact Nat.le_trans (Nat.mul_le_mul c3 (by omega : _ ≤ 1000)) (by decide)
        · obtain ⟨R4, s4, n4⟩ := lay_fresh (o := .lst (List.replicate k.toNat v1).flatten) R2 hp
          refine q p _ S2 _ ((s1.trans s2).trans s4) R4 ?_ n4 upd_same (dqa_rep d3 _)
          cases hz : H p with
          | none => rfl
          | some o =>
            obtain ⟨o', q'⟩ := (s1.trans s2).dom p o hz
            rw [hp] at q'
            cases q'
      · cases hf
    · cases hf
  · cases hf
end
end Pd

/-! enumerate over a tuple. -/
namespace Pd
open PySem PySem.Spec PyProof.Rows L2
open Evl (Ex)
/-- the tuple at a, walked with counts -/
def Itn (K : PySem.W.Frag) (a : Addr) : It where
  go k H := ∃ (vs : List V) (y : V), SqT K H a vs ∧ vs[k]? = some y
  yld k H u H' := ∃ T y, u = .ref T ∧ H T = none ∧ H' = upd H T (.tup [.int (k : Nat), y]) ∧ ∀ vs, SqT K H a vs → vs[k]? = some y
  stop k H := ∃ vs : List V, SqT K H a vs ∧ vs.length ≤ k
theorem turn_enumT {P : Program} {w : World} {K : PySem.W.Frag} {es : List Expr} {j : Nat} {tp : Pos} (a c r : Addr) :
    Turn P w K (.Tuple es j tp) (Itn K a) [c, r] c (fun k h => (∃ o, IsEnum h c r ((k : Nat) : Int) o) ∧ h.IsTupleIter r a k ∧ c ≠ r ∧ r ≠ a ∧ c ≠ a) where
  mem := List.mem_cons_self ..
  obj := fun k h st b hb => by
    obtain ⟨⟨o, he⟩, ⟨u, hu, hc, hd⟩, _⟩ := st
    rcases List.mem_cons.mp hb with z | z
    · rw [z]; exact ⟨_, he, fun v q => nomatch q⟩
    · rw [List.mem_singleton.mp z]; exact ⟨u, hu, fun v q => by rw [hd] at q; cases q⟩
  keep := fun k h h' st kp => by
    obtain ⟨⟨o, he⟩, hi, n1, n2, n3⟩ := st
    exact ⟨⟨o, kp c (by simp) _ he⟩, hi.at fun u q => kp r (by simp) u q, n1, n2, n3⟩
  item := by
    intro X hP hw hK hc k pins s σ H E I hf st hg
    subst hP hw hK
    obtain ⟨⟨o, he⟩, hi, n1, n2, n3⟩ := st
    obtain ⟨vs, y, hq, hy⟩ := hg
    obtain ⟨its, rv, p, hz⟩ := I.tuple hq
    obtain ⟨u, hu, ru⟩ := rv.get hy
    have c1 : c < s.heap.objs.size := Heap.lt_size he
    have c2 : r < s.heap.objs.size := by obtain ⟨_, q, _⟩ := hi; exact Heap.lt_size q
    have dr := Draws.tuple (prog := X.prog) (w := X.w) (A := X.A.in1) (I.ok.hd hc) r a n2.symm its.toArray
    have lt : k < its.toArray.size := by
      have := (List.getElem?_eq_some_iff.mp hu).1
      simpa using this
    refine wpAny_pyNext_enum_itemD dr he ⟨hi, p⟩ lt n1 (by simp [n1, n3]) fun z h1 tk hz1 ho hs hT hsz hk => ?_
    have ez : z = u := by
      have q : some z = some u := hz1.symm.trans (by simpa using hu)
      exact Option.some.inj q
    subst ez
    refine ⟨_, rfl, wpAny_letOwnedTupleGo_enum (s := { s with heap := h1, toks := tk + 1 }) ho fun h2 he2 sb => ?_⟩
    have hT2 : h2.get? s.heap.objs.size = some { cls := .type "tuple", data := .seq #[.int k tk, z] } := (sb.2 _ (Nat.ne_of_gt c1)).trans hT
    have new : ObjOk X.prog X.w (upd H s.heap.objs.size (.tup [.int (k : Nat), y])) h2 s.heap.objs.size (.tup [.int (k : Nat), y]) :=
      ⟨by show 2 ≤ sizeLine; decide, [.int k tk, z], .cons ⟨_, rfl⟩ (.cons ru .nil), ⟨_, hT2, rfl, _, rfl⟩⟩
    have I1 : Inv X pins σ (upd H s.heap.objs.size (.tup [.int (k : Nat), y])) { s with heap := h2, toks := tk + 1 } :=
      I.turnedNew (ch := [c, r]) (fun b ob hb q => (sb.2 b (fun e => hb (by simp [e]))).trans (hk b ob (fun e => hb (by simp [e])) (fun e => hb (by simp [e])) q)) hf (Nat.le_refl _) new
    refine ⟨.ref s.heap.objs.size, _, I1, rfl, ⟨_, y, rfl, I.hok.fresh (Nat.le_refl _), rfl, fun ys hy' => by rw [I.tuple_inj hy' hq]; exact hy⟩, ⟨⟨z, ?_⟩, hs.1.at fun o q => (sb.2 r (Ne.symm n1)).trans q, n1, n2, n3⟩, fun b hb => ?_⟩
    · rw [show ((k + 1 : Nat) : Int) = (k : Int) + 1 by omega]; exact he2
    · have hb' : b < s.heap.objs.size := by
        rcases List.mem_cons.mp hb with e | e
        · rw [e]; exact c1
        · rw [List.mem_singleton.mp e]; exact c2
      rw [upd_ne (Nat.ne_of_lt hb')]
      exact (hf b hb).1
  done := by
    intro X hP hw hK hc k pins s σ H E I hf st hg
    subst hP hw hK
    obtain ⟨⟨o, he⟩, hi, n1, n2, n3⟩ := st
    obtain ⟨vs, hq, hy⟩ := hg
    obtain ⟨its, rv, p, hz⟩ := I.tuple hq
    obtain ⟨f0, f1, f2, f3, f4, f5⟩ := hf r (by simp)
    have hl := rv.length
    have he' := he
    have hTy : s.TypeIs (.ref c) "enumerate" := ⟨_, he, rfl⟩
    unfold pyNext
    refine wpAny_bind (wpAny_attempt (wpAny_callSpecial?_slot (name := Str.ofString "__next__") hTy F.slot_enumerate_next
      (wpAny_call_entry F.slot_enumerate_next hTy F.entry_enumerate_next ?_ (F.args_enumerate_next_1 _))))
    refine wpAny_bind (m := field (.ref c) 2) (wpAny_field he' rfl (x := .ref r) rfl ?_)
    refine wpAny_bind (wpAny_nextOf_tuple_end (I.ok.hd hc) hi (show s.heap.IsTuple a its.toArray from p) (by simp; omega) fun h1 x e1 hx => ?_)
    obtain ⟨u, hu, hcu⟩ := hx
    refine wpAny_bind (wpAny_isInstance (T := "StopIteration") (b := true) ⟨u, hu, hcu⟩ isSubtype_stop ?_)
    exact wpAny_pure ⟨rfl, I.turned (t' := s.toks) (fun b o hb q => e1 b o hb q) f0 f1 f3 f4 f5⟩
  self := fun A k s Q E st h => by
    obtain ⟨⟨_, he⟩, _⟩ := st
    exact wpAny_pyIter_enum he h
set_option maxHeartbeats 2000000 in
theorem meets_enum1 {v : Value} {o : Obj} {R0 : Heap → Prop} (B : Begins v o R0) :
    Meets (Builtin.«enumerate.__new__» ⟨[.type "enumerate", v], []⟩) (fun _ R s => R0 s.heap ∧
      R (.ok (.ret (.ref (s.heap.push o).objs.size))) { s with heap := (s.heap.push o).push { cls := .type "enumerate", data := .fields #[.none, .bool false, .ref s.heap.objs.size, rawInt 0, .none, .none] } }) :=
  .of_wp fun prog w A R s h => by
    obtain ⟨hp, g, d, tk, os⟩ := s
    obtain ⟨h1, hR⟩ := h
    have isSub := sub_enumerate
    have begin1 : ∀ {A' : Around} {E : Value → Shared → Prop} {Q : Value → Shared → Prop}, Q (.ref hp.objs.size) ⟨hp.push o, g, d, tk, os⟩ → wpAny (model prog w) A' (pyIter v) Q E ⟨hp, g, d, tk, os⟩ :=
      fun q => B.iter prog w _ _ ⟨hp, g, d, tk, os⟩ _ h1 q
    wp_walk using begin1
    refine wpAny_stack_any fun st => wpAny_pure ?_
    split
    · rename_i cl _ _ _ _ _
      cases (cl == Value.type "enumerate")
      · wp_walk using begin1
        exact ⟨_, rfl, hR⟩
      · wp_walk using begin1
        exact ⟨_, rfl, hR⟩
    · wp_walk using begin1
      exact ⟨_, rfl, hR⟩
theorem enum_begins1 {prog : Program} {w : World} {A : Around} {E : Value → Shared → Prop} {s : Shared} {v : Value} {o : Obj} {R0 : Heap → Prop} {Q : Value → Shared → Prop} (B : Begins v o R0) (h1 : R0 s.heap)
    (h : ∀ h', IsEnum h' (s.heap.objs.size + 1) s.heap.objs.size 0 .none → h'.get? s.heap.objs.size = some o → h'.objs.size = s.heap.objs.size + 2 →
      (∀ b u, s.heap.get? b = some u → h'.get? b = some u) → Q (.ref (s.heap.objs.size + 1)) { s with heap := h' }) :
    wpAny (model prog w) A (call (.type "enumerate") [v]) Q E s := by
  refine callType_new F.called_enumerate (by decide) (F.typeCall_enumerate_1 _) (F.newCall_enumerate_1 _) (fun obj => F.args_object_init_2 obj _) F.entry_enumerate_new (meets_enum1 B) ⟨h1, ?_⟩
  have z : (s.heap.push o).objs.size = s.heap.objs.size + 1 := Heap.size_push ..
  show _ ∧ _
  rw [z]
  have e0 : IsEnum ((s.heap.push o).push { cls := .type "enumerate", data := .fields #[.none, .bool false, .ref s.heap.objs.size, rawInt 0, .none, .none] }) (s.heap.objs.size + 1) s.heap.objs.size 0 .none := by
    have q := Heap.get?_push_size (s.heap.push o) (o := { cls := .type "enumerate", data := .fields #[.none, .bool false, .ref s.heap.objs.size, rawInt 0, .none, .none] }) rfl
    rw [z] at q
    exact q
  refine ⟨⟨_, e0, rfl⟩, h _ e0 (Heap.get?_push_of_some _ (Heap.get?_push_size _ B.free)) (by rw [Heap.size_push, z]) fun b u x => Heap.get?_push_of_some _ (Heap.get?_push_of_some _ x)⟩
def iEnumTI (K : PySem.W.Frag) (ta : TA) : TI := fun σ H R => ta σ H fun vs H1 => ∃ a xs, vs = [.ref a] ∧ SqT K H1 a xs ∧ R (Itn K a) H1
theorem pi_enumT {X : Cx} {e : Expr} {ta : TA} {p pos tp : Pos} {es : List Expr} {j : Nat} (hg : Gl X "enumerate") (hm : X.mg "enumerate" = none) (ha : PA X [e] ta) (hs : starEach [e] X.env = [(false, eval e X.env)] := by rfl) :
    PI X (.Tuple es j tp) (.Call (.Name "enumerate" p) [e] [] pos) (iEnumTI X.K ta) := by
  refine ⟨fun pins s σ H R I h => ?_⟩
  refine Call_ (ld_blt I hg hm boot_enumerate (PyProof.Rows.callWith_type1 (thn (ha.run pos pins s σ H _ I h) fun us s1 ⟨vs, H1, I1, r1, q1⟩ => ?_) hs rfl))
  obtain ⟨a, xs, ex, hq, q⟩ := q1
  subst ex
  cases r1 with
  | cons r rr =>
    cases rr
    cases r
    obtain ⟨its, rv, p', hz⟩ := I1.tuple hq
    have ha1 : a < s1.heap.objs.size := by obtain ⟨_, q, _⟩ := p'; exact Heap.lt_size q
    refine enum_begins1 (begins_tuple a its.toArray) p' fun h1 he hi hsz hk => wpAny_pyIter_enum he ?_
    have I2 : Inv X pins σ H1 { s1 with heap := h1 } := I1.kept (t' := s1.toks) hk
    refine ⟨s1.heap.objs.size + 1, [s1.heap.objs.size + 1, s1.heap.objs.size], _, _, H1, rfl, I2, turn_enumT a (s1.heap.objs.size + 1) s1.heap.objs.size, ⟨⟨.none, he⟩, ⟨_, hi, rfl, rfl⟩, Nat.succ_ne_self _, Nat.ne_of_gt ha1, Nat.ne_of_gt (Nat.lt_succ_of_lt ha1)⟩, fun b hb => ?_, q⟩
    have hle : s1.heap.objs.size ≤ b := by
      rcases List.mem_cons.mp hb with z | z
      · rw [z]; exact Nat.le_add_right _ _
      · rw [List.mem_singleton.mp z]; exact Nat.le_refl _
    exact I1.fpOk hle (I1.hok.fresh hle)
section
variable [TabSet] {X : Cx} {F : Fr} {e a b c tg : Expr} {pos p : Pos} {f g h : M}
omit [TabSet] in
/-- enumerate of a list or a tuple -/
def iEnum (f : M) : MA := fun δ => match f δ with
  | some (.list xs, δ1) => some (enumD 0 xs, δ1)
  | some (.tuple xs, δ1) => some (enumD 0 xs, δ1)
  | _ => none
theorem i_enum {pp tpos : Pos} {elts : List Expr} {kk : Nat} (hg : Gl X "enumerate" := by rfl) (hm : X.mg "enumerate" = none) (ha : PE X a (SE X.K F f)) (hs : starEach [a] X.env = [(false, eval a X.env)] := by rfl) (na : starEach [a] X.env = (false, eval a X.env) :: starEach [] X.env := by rfl) :
    PI X (.Tuple elts kk tpos) (.Call (.Name "enumerate" pp) [a] [] pos) (SI X.K F (iEnum f)) := by
  refine pi_of fun S δ ds δ' σ H R Rs hf q => ?_
  unfold iEnum at hf
  split at hf
  · rename_i xs δ1 h1
    cases hf
    refine ⟨_, i_enumL hg hm ha hs na, S, δ, _, _, Rs, by unfold iEnumL; rw [h1], q⟩
  · rename_i xs δ1 h1
    cases hf
    refine ⟨_, pi_enumT hg hm (pa_cons ha pa_nil na) hs, S, δ, _, _, Rs, h1, fun v S1 H1 s1 R1 d1 => ?_⟩
    obtain ⟨p1, v1, rfl, e1, d1⟩ := dq_tup d1
    have l1 := dqa_len d1
    refine ⟨p1, v1, rfl, SqT.of (R1.sub _ _ e1), q _ S1 H1 s1 R1 ⟨fun i S3 H3 x1 x2 hi => ?_, fun i S3 H3 x H4 d x1 x2 hy hd => ?_, fun i S3 H3 x1 x2 hi => ?_⟩⟩
    · rw [enumD_len] at hi
      exact ⟨v1, v1[i]'(by omega), SqT.of (x2 _ _ (x1 _ _ e1)), List.getElem?_eq_getElem _⟩
    · obtain ⟨T, x, rfl, hT, rfl, k1⟩ := hy
      obtain ⟨dx, z1, rfl⟩ := enumD_get _ _ _ _ hd
      rw [Nat.zero_add]
      exact pair_new x2 hT (.int _) (dq_ext x1 (dqa_at d1 z1 (k1 _ (SqT.of (x2 _ _ (x1 _ _ e1))))))
    · rw [enumD_len] at hi
      exact ⟨v1, SqT.of (x2 _ _ (x1 _ _ e1)), by omega⟩
  · cases hf
end
end Pd

/-! What a shallow function answers, wished for from behind: Wp. -/
namespace Pd
open PySem PySem.Spec PyProof.Rows L2
def Wp {α : Type} (o : Option α) (Q : α → Prop) : Prop := ∃ a, o = some a ∧ Q a
section
variable {α β : Type} {Q R : α → Prop} {o : Option α}
theorem Wp.mono (h : Wp o Q) (w : ∀ a, Q a → R a) : Wp o R := by
  obtain ⟨a, e, q⟩ := h
  exact ⟨a, e, w a q⟩
theorem Wp.eq {a : α} (h : Wp o (· = a)) : o = some a := by
  obtain ⟨b, e, rfl⟩ := h
  exact e
theorem wp_of_eq {a : α} (e : o = some a) (h : Q a) : Wp o Q := ⟨a, e, h⟩
@[simp] theorem wp_some (a : α) : Wp (some a) Q ↔ Q a := by simp [Wp]
@[simp] theorem wp_none : Wp (none : Option α) Q ↔ False := by simp [Wp]
@[simp] theorem wp_map (f : β → α) (o : Option β) : Wp (o.map f) Q ↔ Wp o fun b => Q (f b) := by cases o <;> simp
@[simp] theorem wp_iteN {c : Prop} [Decidable c] : Wp (if c then none else o) Q ↔ ¬c ∧ Wp o Q := by
  by_cases h : c <;> simp [h]
@[simp] theorem wp_ite {c : Prop} [Decidable c] : Wp (if c then o else none) Q ↔ c ∧ Wp o Q := by
  by_cases h : c <;> simp [h]
end
section
variable {f g h : M} {tf tg : MT} {fa ga : MA} {fr : MR} {δ : DE} {pf pg : PF} {pl ph : PO'}
variable {Q : D × DE → Prop} {QT : Bool × DE → Prop} {QA : List D × DE → Prop} {QR : Int × Int × DE → Prop} {QD : D → Prop} {QO : Option Int → Prop} {QS : Out → Prop} {QE : DE → Prop} {QF : Res → Prop} {QC : D × List D → Prop}
/-- a datum that is True or False; a whole number -/
def boolK (Q : Bool → Prop) : D → Prop
  | .bool b => Q b
  | _ => False
def intK (Q : Int → Prop) : D → Prop
  | .int i => Q i
  | _ => False
@[simp] theorem boolK_b {Q : Bool → Prop} {b : Bool} : boolK Q (.bool b) ↔ Q b := Iff.rfl
@[simp] theorem intK_i {Q : Int → Prop} {i : Int} : intK Q (.int i) ↔ Q i := Iff.rfl
/-! ### plain -/
@[simp] theorem wp_pVar {i : Nat} : Wp (pVar i δ) QD ↔ ∃ d, δ[i]? = some (.sh d) ∧ QD d := by
  unfold pVar
  rcases hx : δ[i]? with _ | s
  · simp_all
  cases s <;> simp_all
@[simp] theorem wp_pC {d : D} : Wp (pC d δ) QD ↔ QD d := by simp [pC]
@[simp] theorem wp_pOp {op : D → D → Option D} : Wp (pOp op pf pg δ) QD ↔ Wp (pf δ) fun x => Wp (pg δ) fun y => Wp (op x y) QD := by
  unfold pOp
  rcases pf δ with _ | x <;> simp
  rcases pg δ with _ | y <;> simp
@[simp] theorem wp_pNeg : Wp (pNeg pf δ) QD ↔ Wp (pf δ) fun x => ∃ i, x = .int i ∧ QD (.int (-i)) := by
  unfold pNeg
  rcases pf δ with _ | x
  · simp
  cases x <;> simp
@[simp] theorem wp_addI {x y : D} : Wp (addI x y) QD ↔ ∃ i j, x = .int i ∧ y = .int j ∧ QD (.int (i + j)) := by
  unfold addI
  cases x <;> cases y <;> simp
@[simp] theorem wp_pAdd : Wp (pAdd pf pg δ) QD ↔ Wp (pf δ) fun x => Wp (pg δ) fun y => ∃ i j, x = .int i ∧ y = .int j ∧ QD (.int (i + j)) := by
  unfold pAdd
  simp
@[simp] theorem wp_oNo : Wp (oNo δ) QO ↔ QO none := by simp [oNo]
@[simp] theorem wp_oInt : Wp (oInt pf δ) QO ↔ Wp (pf δ) fun x => ∃ i, x = .int i ∧ QO (some i) := by
  unfold oInt
  rcases pf δ with _ | x
  · simp
  cases x <;> simp
/-! ### expressions -/
@[simp] theorem wp_fVar {i : Nat} : Wp (fVar i δ) Q ↔ ∃ d, δ[i]? = some (.sh d) ∧ Q (d, δ) := by
  unfold fVar
  rcases hx : δ[i]? with _ | s
  · simp_all
  cases s <;> simp_all
@[simp] theorem wp_fC {d : D} : Wp (fC d δ) Q ↔ Q (d, δ) := by simp [fC]
@[simp] theorem wp_fOp {op : D → D → Option D} : Wp (fOp op f g δ) Q ↔ Wp (f δ) fun p => Wp (g p.2) fun q => Wp (op p.1 q.1) fun z => Q (z, q.2) := by
  unfold fOp
  rcases f δ with _ | ⟨x, δ1⟩ <;> simp
  rcases g δ1 with _ | ⟨y, δ2⟩ <;> simp
  rcases op x y with _ | z <;> simp
@[simp] theorem wp_fNeg : Wp (fNeg f δ) Q ↔ Wp (f δ) fun p => ∃ i, p.1 = .int i ∧ Q (.int (-i), p.2) := by
  unfold fNeg
  rcases f δ with _ | ⟨x, δ1⟩
  · simp
  cases x <;> simp
@[simp] theorem wp_fCmp {o : D → D → Option Bool} : Wp (fCmp o f g δ) Q ↔ Wp (f δ) fun p => Wp (g p.2) fun q => Wp (o p.1 q.1) fun k => Q (.bool k, q.2) := by
  unfold fCmp
  simp
@[simp] theorem wp_fCmpT {o : D → D → Option Bool} : Wp (fCmpT o f g δ) QT ↔ Wp (f δ) fun p => Wp (g p.2) fun q => Wp (o p.1 q.1) fun k => QT (k, q.2) := by
  unfold fCmpT fCmp fOp
  rcases f δ with _ | ⟨x, δ1⟩ <;> simp
  rcases g δ1 with _ | ⟨y, δ2⟩ <;> simp
  rcases o x y with _ | z <;> simp
/-- what a chain asks behind its first comparison -/
def chainK (o' : D → D → Option Bool) (h : M) (Q : Bool × DE → Prop) (y : D) (δ2 : DE) (b : Bool) : Prop :=
  (b = true → Wp (h δ2) fun r => Wp (o' y r.1) fun k => Q (k, r.2)) ∧ (b = false → Q (false, δ2))
@[simp] theorem chainK_b {o' : D → D → Option Bool} {h : M} {y : D} {δ2 : DE} {b : Bool} : chainK o' h QT y δ2 b ↔ (b = true → Wp (h δ2) fun r => Wp (o' y r.1) fun k => QT (k, r.2)) ∧ (b = false → QT (false, δ2)) := Iff.rfl
@[simp] theorem wp_fChain {o o' : D → D → Option Bool} : Wp (fChain o o' f g h δ) Q ↔ Wp (f δ) fun p => Wp (g p.2) fun q => Wp (o p.1 q.1) (chainK o' h (fun b => Q (.bool b.1, b.2)) q.1 q.2) := by
  unfold fChain
  rcases f δ with _ | ⟨x, δ1⟩ <;> simp
  rcases g δ1 with _ | ⟨y, δ2⟩ <;> simp
  rcases o x y with _ | b <;> simp
  cases b <;> simp
  rcases h δ2 with _ | ⟨z, δ3⟩ <;> simp
@[simp] theorem wp_fChainT {o o' : D → D → Option Bool} : Wp (fChainT o o' f g h δ) QT ↔ Wp (f δ) fun p => Wp (g p.2) fun q => Wp (o p.1 q.1) (chainK o' h QT q.1 q.2) := by
  unfold fChainT fChain
  rcases f δ with _ | ⟨x, δ1⟩ <;> simp
  rcases g δ1 with _ | ⟨y, δ2⟩ <;> simp
  rcases o x y with _ | b <;> simp
  cases b <;> simp
  rcases h δ2 with _ | ⟨z, δ3⟩ <;> simp
  rcases o' y z with _ | k <;> simp
@[simp] theorem wp_fB : Wp (fB f δ) QT ↔ Wp (f δ) fun p => boolK (fun b => QT (b, p.2)) p.1 := by
  unfold fB
  rcases f δ with _ | ⟨x, δ1⟩
  · simp
  cases x <;> simp [boolK]
@[simp] theorem wp_fTruth : Wp (fTruth f δ) QT ↔ Wp (f δ) fun p => Wp (truth p.1) fun b => QT (b, p.2) := by
  unfold fTruth
  rcases f δ with _ | ⟨x, δ1⟩ <;> simp
@[simp] theorem wp_fNotT : Wp (fNotT tf δ) QT ↔ Wp (tf δ) fun p => QT (!p.1, p.2) := by
  unfold fNotT
  rcases tf δ with _ | ⟨x, δ1⟩ <;> simp
@[simp] theorem wp_fAndT : Wp (fAndT tf tg δ) QT ↔ Wp (tf δ) fun p => (p.1 = true → Wp (tg p.2) QT) ∧ (p.1 = false → QT (false, p.2)) := by
  unfold fAndT
  rcases tf δ with _ | ⟨x, δ1⟩
  · simp
  cases x <;> simp
@[simp] theorem wp_fOrT : Wp (fOrT tf tg δ) QT ↔ Wp (tf δ) fun p => (p.1 = true → QT (true, p.2)) ∧ (p.1 = false → Wp (tg p.2) QT) := by
  unfold fOrT
  rcases tf δ with _ | ⟨x, δ1⟩
  · simp
  cases x <;> simp
@[simp] theorem wp_fAndV : Wp (fAndV f g δ) Q ↔ Wp (f δ) fun p => boolK (fun b => (b = true → Wp (g p.2) Q) ∧ (b = false → Q (.bool false, p.2))) p.1 := by
  unfold fAndV
  rcases f δ with _ | ⟨x, δ1⟩
  · simp
  cases x
  case bool b => cases b <;> simp
  all_goals simp [boolK]
@[simp] theorem wp_fOrV : Wp (fOrV f g δ) Q ↔ Wp (f δ) fun p => boolK (fun b => (b = true → Q (.bool true, p.2)) ∧ (b = false → Wp (g p.2) Q)) p.1 := by
  unfold fOrV
  rcases f δ with _ | ⟨x, δ1⟩
  · simp
  cases x
  case bool b => cases b <;> simp
  all_goals simp [boolK]
@[simp] theorem wp_fNotV : Wp (fNotV f δ) Q ↔ Wp (f δ) fun p => boolK (fun b => Q (.bool (!b), p.2)) p.1 := by
  unfold fNotV
  rcases f δ with _ | ⟨x, δ1⟩
  · simp
  cases x <;> simp [boolK]
@[simp] theorem wp_fIf : Wp (fIf tf f g δ) Q ↔ Wp (tf δ) fun p => (p.1 = true → Wp (f p.2) Q) ∧ (p.1 = false → Wp (g p.2) Q) := by
  unfold fIf
  rcases tf δ with _ | ⟨x, δ1⟩
  · simp
  cases x <;> simp
@[simp] theorem wp_aNil : Wp (aNil δ) QA ↔ QA ([], δ) := by simp [aNil]
@[simp] theorem wp_aCons : Wp (aCons f fa δ) QA ↔ Wp (f δ) fun p => Wp (fa p.2) fun q => QA (p.1 :: q.1, q.2) := by
  unfold aCons
  rcases f δ with _ | ⟨x, δ1⟩ <;> simp
  rcases fa δ1 with _ | ⟨y, δ2⟩ <;> simp
@[simp] theorem wp_fTup : Wp (fTup fa δ) Q ↔ Wp (fa δ) fun p => p.1.length ≤ 100000 ∧ Q (.tuple p.1, p.2) := by
  unfold fTup
  rcases fa δ with _ | ⟨x, δ1⟩ <;> simp
@[simp] theorem wp_fList : Wp (fList fa δ) Q ↔ Wp (fa δ) fun p => Q (.list p.1, p.2) := by
  unfold fList
  rcases fa δ with _ | ⟨x, δ1⟩ <;> simp
@[simp] theorem wp_lLst : Wp (lLst fa δ) QA ↔ Wp (fa δ) fun p => p.1.length ≤ 100000 ∧ QA (p.1, p.2) := by
  unfold lLst
  rcases fa δ with _ | ⟨x, δ1⟩ <;> simp
/-- what is read of a slot -/
def peekD : Slot → Option D
  | .ow (.lst xs) => some (.list xs)
  | .ow (.dct kvs) => some (.dict kvs)
  | .sh d => some d
  | _ => none
@[simp] theorem peekD_l {xs : List D} : peekD (.ow (.lst xs)) = some (.list xs) := rfl
@[simp] theorem peekD_k {kvs : List (D × D)} : peekD (.ow (.dct kvs)) = some (.dict kvs) := rfl
@[simp] theorem peekD_s {d : D} : peekD (.sh d) = some d := rfl
@[simp] theorem peekD_n : peekD .no = none := rfl
@[simp] theorem wp_fPeek {i : Nat} : Wp (fPeek i δ) Q ↔ Wp (δ[i]?.bind peekD) fun d => Q (d, δ) := by
  unfold fPeek
  rcases hx : δ[i]? with _ | s
  · simp
  · cases s with
    | ow ob => cases ob <;> simp
    | _ => simp [peekD]
@[simp] theorem wp_fIxX : Wp (fIxX f pg δ) Q ↔ Wp (f δ) fun p => Wp (pg p.2) fun y => Wp (ixD p.1 y) fun z => Q (z, p.2) := by
  unfold fIxX
  rcases f δ with _ | ⟨x, δ1⟩ <;> simp
  rcases pg δ1 with _ | y <;> simp
@[simp] theorem wp_lSl : Wp (lSl f pl ph δ) QA ↔ Wp (f δ) fun p => ∃ ds, p.1 = .list ds ∧ Wp (pl p.2) fun lo => Wp (ph p.2) fun hi => QA (cutD ds lo hi, p.2) := by
  unfold lSl
  rcases f δ with _ | ⟨x, δ1⟩
  · simp
  cases x <;> simp
  rcases pl δ1 with _ | lo <;> simp
  rcases ph δ1 with _ | hi <;> simp
@[simp] theorem wp_fSlT : Wp (fSlT f pl ph δ) Q ↔ Wp (f δ) fun p => ∃ ds, p.1 = .tuple ds ∧ Wp (pl p.2) fun lo => Wp (ph p.2) fun hi => Q (.tuple (cutD ds lo hi), p.2) := by
  unfold fSlT
  rcases f δ with _ | ⟨x, δ1⟩
  · simp
  cases x <;> simp
  rcases pl δ1 with _ | lo <;> simp
  rcases ph δ1 with _ | hi <;> simp
/-- a part of a list or a tuple -/
def slK (pl ph : PO') (Q : D × DE → Prop) : D × DE → Prop
  | (.list ds, δ) => Wp (pl δ) fun lo => Wp (ph δ) fun hi => Q (.list (cutD ds lo hi), δ)
  | (.tuple ds, δ) => Wp (pl δ) fun lo => Wp (ph δ) fun hi => Q (.tuple (cutD ds lo hi), δ)
  | _ => False
@[simp] theorem slK_l {ds : List D} : slK pl ph Q (.list ds, δ) ↔ Wp (pl δ) fun lo => Wp (ph δ) fun hi => Q (.list (cutD ds lo hi), δ) := Iff.rfl
@[simp] theorem slK_t {ds : List D} : slK pl ph Q (.tuple ds, δ) ↔ Wp (pl δ) fun lo => Wp (ph δ) fun hi => Q (.tuple (cutD ds lo hi), δ) := Iff.rfl
@[simp] theorem wp_fSlA : Wp (fSlA f pl ph δ) Q ↔ Wp (f δ) (slK pl ph Q) := by
  rcases hx : f δ with _ | ⟨x, δ1⟩
  · simp [fSlA, hx]
  cases x <;> simp [fSlA, hx, fList, lSl, fSlT, slK]
  · rcases hl : pl δ1 with _ | lo <;> simp [hl]
    rcases hh : ph δ1 with _ | hi <;> simp [hh]
  · rcases hl : pl δ1 with _ | lo <;> simp [hl]
    rcases hh : ph δ1 with _ | hi <;> simp [hh]
@[simp] theorem wp_f1 {u : D → Option D} : Wp (f1 u f δ) Q ↔ Wp (f δ) fun p => Wp (u p.1) fun z => Q (z, p.2) := by
  unfold f1
  rcases f δ with _ | ⟨x, δ1⟩ <;> simp
@[simp] theorem wp_l1 {u : D → Option (List D)} : Wp (l1 u f δ) QA ↔ Wp (f δ) fun p => Wp (u p.1) fun z => QA (z, p.2) := by
  unfold l1
  rcases f δ with _ | ⟨x, δ1⟩ <;> simp
@[simp] theorem wp_r1 : Wp (r1 f δ) QR ↔ Wp (f δ) fun p => ∃ n, p.1 = .int n ∧ QR (0, n, p.2) := by
  unfold r1
  rcases f δ with _ | ⟨x, δ1⟩
  · simp
  cases x <;> simp
@[simp] theorem wp_r2 : Wp (r2 f g δ) QR ↔ Wp (f δ) fun p => ∃ a, p.1 = .int a ∧ Wp (g p.2) fun q => ∃ b, q.1 = .int b ∧ QR (a, b, q.2) := by
  unfold r2
  rcases f δ with _ | ⟨x, δ1⟩
  · simp
  cases x <;> simp
  rcases g δ1 with _ | ⟨y, δ2⟩
  · simp
  cases y <;> simp
@[simp] theorem wp_lRg : Wp (lRg fr δ) QA ↔ Wp (fr δ) fun p => rgOk p.1 p.2.1 = true ∧ QA (rgD p.1 p.2.1, p.2.2) := by
  unfold lRg
  rcases fr δ with _ | ⟨a, b, δ1⟩ <;> simp
@[simp] theorem wp_fTupRg : Wp (fTupRg fr δ) Q ↔ Wp (fr δ) fun p => rgOk p.1 p.2.1 = true ∧ Q (.tuple (rgD p.1 p.2.1), p.2.2) := by
  unfold fTupRg
  rcases fr δ with _ | ⟨a, b, δ1⟩ <;> simp
/-- items of a list or a tuple -/
def seqK (Q : List D × DE → Prop) : D × DE → Prop
  | (.list ds, δ) => Q (ds, δ)
  | (.tuple ds, δ) => Q (ds, δ)
  | _ => False
@[simp] theorem seqK_l {ds : List D} : seqK QA (.list ds, δ) ↔ QA (ds, δ) := Iff.rfl
@[simp] theorem seqK_t {ds : List D} : seqK QA (.tuple ds, δ) ↔ QA (ds, δ) := Iff.rfl
@[simp] theorem wp_iSeq : Wp (iSeq f δ) QA ↔ Wp (f δ) (seqK QA) := by
  unfold iSeq
  rcases f δ with _ | ⟨x, δ1⟩
  · simp
  cases x <;> simp [seqK]
@[simp] theorem wp_iEnum : Wp (iEnum f δ) QA ↔ Wp (f δ) (seqK fun p => QA (enumD 0 p.1, p.2)) := by
  unfold iEnum
  rcases f δ with _ | ⟨x, δ1⟩
  · simp
  cases x <;> simp [seqK]
/-- zip of two lists, or of two tuples -/
def zipK (g : M) (Q : List D × DE → Prop) : D × DE → Prop
  | (.list xs, δ) => Wp (g δ) fun q => ∃ ys, q.1 = .list ys ∧ Q (zipD xs ys, q.2)
  | (.tuple xs, δ) => Wp (g δ) fun q => ∃ ys, q.1 = .tuple ys ∧ Q (zipD xs ys, q.2)
  | _ => False
@[simp] theorem zipK_l {ds : List D} : zipK g QA (.list ds, δ) ↔ Wp (g δ) fun q => ∃ ys, q.1 = .list ys ∧ QA (zipD ds ys, q.2) := Iff.rfl
@[simp] theorem zipK_t {ds : List D} : zipK g QA (.tuple ds, δ) ↔ Wp (g δ) fun q => ∃ ys, q.1 = .tuple ys ∧ QA (zipD ds ys, q.2) := Iff.rfl
@[simp] theorem wp_iZip2 : Wp (iZip2 f g δ) QA ↔ Wp (f δ) (zipK g QA) := by
  unfold iZip2
  rcases f δ with _ | ⟨x, δ1⟩
  · simp
  cases x <;> simp [zipK]
  · rcases g δ1 with _ | ⟨y, δ2⟩
    · simp
    cases y <;> simp
  · rcases g δ1 with _ | ⟨y, δ2⟩
    · simp
    cases y <;> simp
/-! ### targets -/
@[simp] theorem wp_gN {i : Nat} {d : D} : Wp (gN i d δ) QE ↔ free0 i δ = true ∧ QE (δ.set i (.sh d)) := by
  unfold gN
  simp
@[simp] theorem wp_gsNil : Wp (gsNil [] δ) QE ↔ QE δ := by simp [gsNil]
@[simp] theorem wp_gsCons {gg : MG} {gs : MGs} {d : D} {r : List D} : Wp (gsCons gg gs (d :: r) δ) QE ↔ Wp (gg d δ) fun δ1 => Wp (gs r δ1) QE := by
  simp only [gsCons]
  rcases gg d δ with _ | δ1 <;> simp
@[simp] theorem wp_gT {gs : MGs} {ds : List D} : Wp (gT gs (.tuple ds) δ) QE ↔ Wp (gs ds δ) QE := by simp [gT]
@[simp] theorem wp_gSubO {i : Nat} {d : D} : Wp (gSubO i pf d δ) QE ↔ Wp (pf δ) fun x => ∃ j, x = .int j ∧ ∃ xs, δ[i]? = some (.ow (.lst xs)) ∧ Wp (ixN xs.length j) fun k => QE (δ.set i (.ow (xs.set k d))) := by
  unfold gSubO
  rcases pf δ with _ | x
  · simp
  cases x <;> simp
  rename_i j
  rcases δ[i]? with _ | s
  · simp
  rcases s with _ | d | (xs | kvs) | ns <;> simp
  rcases ixN xs.length j with _ | k <;> simp
/-! ### comprehensions -/
@[simp] theorem wp_tTrue : Wp (tTrue δ) QT ↔ QT (true, δ) := by simp [tTrue]
@[simp] theorem wp_lComp {gg : MG} {vs : List Nat} : Wp (lComp fa gg tf f vs δ) QA ↔ Wp (fa δ) fun p => (noOwn vs p.2 = true ∧ p.1.length ≤ 100000) ∧ Wp (cRun gg tf f vs p.1 (wipeD p.2 vs)) fun q => QA (q.1, mergeD p.2 q.2 vs) := by
  unfold lComp
  rcases fa δ with _ | ⟨ds, δ1⟩ <;> simp
  intro _ _
  rcases cRun gg tf f vs ds (wipeD δ1 vs) with _ | ⟨ys, δ2⟩ <;> simp
/-- what a comprehension asks of one item -/
def itemK (f : M) (vs : List Nat) (N : Option D → DE → Prop) (p : Bool × DE) : Prop :=
  (p.1 = true → Wp (f p.2) fun q => N (some q.1) (wipeD q.2 vs)) ∧ (p.1 = false → N none (wipeD p.2 vs))
theorem wp_cRun {gg : MG} {vs : List Nat} (I : List D → List D → DE → Prop) : ∀ {QA : List D × DE → Prop} {ds : List D} {acc : List D} {δ : DE}, I ds acc δ →
    (∀ d ds acc δ, I (d :: ds) acc δ → Wp (gg d δ) fun δ1 => Wp (tf δ1) (itemK f vs fun y δ2 => I ds (acc ++ y.toList) δ2)) →
    (∀ ys δ, I [] (acc ++ ys) δ → QA (ys, δ)) → Wp (cRun gg tf f vs ds δ) QA
  | _, [], acc, δ, h0, _, he => by
    simp only [cRun, wp_some]
    exact he [] δ (by rw [List.append_nil]; exact h0)
  | QA, d :: ds, acc, δ, h0, hs, he => by
    obtain ⟨δ1, e1, δp, e2, k1, k2⟩ := hs d ds acc δ h0
    obtain ⟨b, δ2⟩ := δp
    cases b with
    | true =>
      obtain ⟨⟨y, δ3⟩, e3, k3⟩ := k1 rfl
      simp only [cRun, e1, e2, e3]
      have ih := wp_cRun (QA := fun q => QA (y :: q.1, q.2)) I k3 hs (fun ys δ hI => he (y :: ys) δ (by simpa only [Option.toList_some, List.append_assoc, List.singleton_append] using hI))
      obtain ⟨⟨ys, δ4⟩, e4, k4⟩ := ih
      simp only [e4, wp_some]
      exact k4
    | false =>
      have k3 := k2 rfl
      simp only [cRun, e1, e2]
      simp only [Option.toList_none, List.append_nil] at k3
      exact wp_cRun I k3 hs he
/-- .. that draws nothing -/
theorem wp_cMap {gg : MG} {vs : List Nat} {ds : List D} {α : Type} (en : α → D) (xs : List α) (pr : α → Bool) (o : α → D) (hd : ds = xs.map en)
    (hs : ∀ x ∈ xs, Wp (gg (en x) δ) fun δ1 => Wp (tf δ1) fun p => p.1 = pr x ∧ (pr x = true → Wp (f p.2) fun q => q.1 = o x ∧ wipeD q.2 vs = δ) ∧ (pr x = false → wipeD p.2 vs = δ)) (he : QA ((xs.filter pr).map o, δ)) : Wp (cRun gg tf f vs ds δ) QA := by
  subst hd
  have key : ∀ xs : List α, (∀ x ∈ xs, Wp (gg (en x) δ) fun δ1 => Wp (tf δ1) fun p => p.1 = pr x ∧ (pr x = true → Wp (f p.2) fun q => q.1 = o x ∧ wipeD q.2 vs = δ) ∧ (pr x = false → wipeD p.2 vs = δ)) → cRun gg tf f vs (xs.map en) δ = some ((xs.filter pr).map o, δ) := by
    intro xs
    induction xs with
    | nil => intro _; rfl
    | cons x r ih =>
      intro h
      have ih := ih fun y hy => h y (List.mem_cons_of_mem _ hy)
      obtain ⟨δ1, e1, ⟨b, δ2⟩, e2, hb, k1, k2⟩ := h x (List.mem_cons_self ..)
      simp only at hb k1 k2
      subst hb
      cases hp : pr x with
      | true =>
        rw [hp] at e2
        obtain ⟨⟨y, δ3⟩, e3, k3, k4⟩ := k1 hp
        simp only at k3 k4
        simp only [List.map_cons, cRun, e1, e2, e3, k4, ih, List.filter_cons, hp, if_true, k3]
      | false =>
        rw [hp] at e2
        have k3 := k2 hp
        simp only [List.map_cons, cRun, e1, e2, k3, ih, List.filter_cons, hp, if_neg Bool.false_ne_true]
  exact ⟨_, key xs hs, he⟩
/-! ### calls -/
/-- what a call that returns gives -/
def retK (Q : D → Prop) : Res → Prop
  | .ret d => Q d
  | .exc _ _ => False
@[simp] theorem retK_r {d : D} : retK QD (.ret d) ↔ QD d := Iff.rfl
@[simp] theorem retK_e {c p} : retK QD (.exc c p) ↔ False := Iff.rfl
@[simp] theorem wp_fCall {m : MF} : Wp (fCall m fa δ) Q ↔ Wp (fa δ) fun p => Wp (m p.1) (retK fun d => Q (d, p.2)) := by
  unfold fCall
  rcases fa δ with _ | ⟨ds, δ1⟩ <;> simp
  rcases m ds with _ | r
  · simp
  cases r <;> simp [retK]
@[simp] theorem wp_fCallC {i : Nat} {m : MC} : Wp (fCallC i m fa δ) Q ↔ isOw δ i = true ∧ Wp (fa δ) fun p => ∃ xs, p.2[i]? = some (.ow (.lst xs)) ∧ Wp (m xs p.1) fun r => Q (r.1, p.2.set i (.ow r.2)) := by
  unfold fCallC
  by_cases h : isOw δ i = true <;> simp [h]
  rcases fa δ with _ | ⟨ds, δ1⟩ <;> simp
  rcases δ1[i]? with _ | s
  · simp
  rcases s with _ | d | (xs | kvs) | ns <;> simp
  rcases m xs ds with _ | r <;> simp
/-- what a called check gives -/
def callK (δ : DE) (Q : Out → Prop) : Res → Prop
  | .ret _ => Q (.nx δ)
  | .exc c p => Q (.ex c p)
@[simp] theorem callK_r {d : D} : callK δ QS (.ret d) ↔ QS (.nx δ) := Iff.rfl
@[simp] theorem callK_e {c p} : callK δ QS (.exc c p) ↔ QS (.ex c p) := Iff.rfl
@[simp] theorem wp_sCall {m : MF} : Wp (sCall m fa δ) QS ↔ Wp (fa δ) fun p => Wp (m p.1) (callK p.2 QS) := by
  unfold sCall
  rcases fa δ with _ | ⟨ds, δ1⟩ <;> simp
  rcases m ds with _ | r
  · simp
  cases r <;> simp [callK]
@[simp] theorem wp_rCall {m : MF} {QQ : Res × DE → Prop} : Wp (rCall m fa δ) QQ ↔ Wp (fa δ) fun p => Wp (m p.1) fun r => QQ (r, p.2) := by
  unfold rCall
  rcases fa δ with _ | ⟨ds, δ1⟩ <;> simp
  rcases m ds with _ | r <;> simp
/-- the word of an error -/
def toldK (mt : Str → Str → Option Bool) (hands : List (Str × Str)) (dflt : Str) (Q : D × DE → Prop) : Res × DE → Prop
  | (.ret _, δ) => Q (.str dflt, δ)
  | (.exc c _, δ) => Wp (pick mt c hands) fun r => Q (.str r, δ)
@[simp] theorem toldK_r {mt : Str → Str → Option Bool} {hands : List (Str × Str)} {dflt : Str} {d : D} : toldK mt hands dflt Q (.ret d, δ) ↔ Q (.str dflt, δ) := Iff.rfl
@[simp] theorem toldK_e {mt : Str → Str → Option Bool} {hands : List (Str × Str)} {dflt : Str} {c p} : toldK mt hands dflt Q (.exc c p, δ) ↔ Wp (pick mt c hands) fun r => Q (.str r, δ) := Iff.rfl
@[simp] theorem wp_fTold {mt : Str → Str → Option Bool} {hands : List (Str × Str)} {dflt : Str} {ff : DE → Option (Res × DE)} : Wp (fTold mt hands dflt ff δ) Q ↔ Wp (ff δ) (toldK mt hands dflt Q) := by
  unfold fTold
  rcases ff δ with _ | ⟨r, δ1⟩
  · simp
  cases r <;> simp [toldK]
  rename_i c p
  rcases pick mt c hands with _ | r <;> simp
/-! ### own lists -/
@[simp] theorem wp_fPop {i : Nat} : Wp (fPop i f δ) Q ↔ isLst δ i = true ∧ Wp (f δ) fun p => ∃ j, p.1 = .int j ∧ ∃ xs, p.2[i]? = some (.ow (.lst xs)) ∧ Wp (ixN xs.length j) fun k => ∃ d, xs[k]? = some d ∧ (small j = true ∧ xs.length ≤ 100000) ∧ Q (d, p.2.set i (.ow (xs.eraseIdx k))) := by
  unfold fPop
  by_cases h : isLst δ i = true <;> simp [h]
  rcases f δ with _ | ⟨x, δ1⟩
  · simp
  cases x <;> simp
  rename_i j
  rcases δ1[i]? with _ | s
  · simp
  rcases s with _ | d | (xs | kvs) | ns <;> simp
  rcases ixN xs.length j with _ | k <;> simp
  rcases xs[k]? with _ | d <;> simp
@[simp] theorem wp_fCmpO {i : Nat} {o : D → D → Option Bool} : Wp (fCmpO i o g δ) Q ↔ isOw δ i = true ∧ Wp (g δ) fun p => ∃ xs, p.2[i]? = some (.ow (.lst xs)) ∧ Wp (o (.list xs) p.1) fun k => Q (.bool k, p.2) := by
  unfold fCmpO
  by_cases h : isOw δ i = true <;> simp [h]
  rcases g δ with _ | ⟨x, δ1⟩ <;> simp
  rcases δ1[i]? with _ | s
  · simp
  rcases s with _ | d | (xs | kvs) | ns <;> simp
  rcases o (.list xs) x with _ | k <;> simp
@[simp] theorem wp_fCmpOT {i : Nat} {o : D → D → Option Bool} : Wp (fCmpOT i o g δ) QT ↔ isOw δ i = true ∧ Wp (g δ) fun p => ∃ xs, p.2[i]? = some (.ow (.lst xs)) ∧ Wp (o (.list xs) p.1) fun k => QT (k, p.2) := by
  unfold fCmpOT fCmpO
  by_cases h : isOw δ i = true <;> simp [h]
  rcases g δ with _ | ⟨x, δ1⟩ <;> simp
  rcases δ1[i]? with _ | s
  · simp
  rcases s with _ | d | (xs | kvs) | ns <;> simp
  rcases o (.list xs) x with _ | k <;> simp
@[simp] theorem wp_fRevT : Wp (fRevT f δ) Q ↔ Wp (f δ) fun p => ∃ ds, p.1 = .tuple ds ∧ Q (.tuple ds.reverse, p.2) := by
  unfold fRevT
  rcases f δ with _ | ⟨x, δ1⟩
  · simp
  cases x <;> simp
@[simp] theorem wp_lRev : Wp (lRev f δ) QA ↔ Wp (f δ) fun p => ∃ ds, p.1 = .list ds ∧ QA (ds.reverse, p.2) := by
  unfold lRev
  rcases f δ with _ | ⟨x, δ1⟩
  · simp
  cases x <;> simp
def revK (Q : D × DE → Prop) : D × DE → Prop
  | (.list ds, δ) => Q (.list ds.reverse, δ)
  | (.tuple ds, δ) => Q (.tuple ds.reverse, δ)
  | _ => False
@[simp] theorem revK_l {ds : List D} : revK Q (.list ds, δ) ↔ Q (.list ds.reverse, δ) := Iff.rfl
@[simp] theorem revK_t {ds : List D} : revK Q (.tuple ds, δ) ↔ Q (.tuple ds.reverse, δ) := Iff.rfl
@[simp] theorem wp_fRev : Wp (fRev f δ) Q ↔ Wp (f δ) (revK Q) := by
  rcases hx : f δ with _ | ⟨x, δ1⟩
  · simp [fRev, hx]
  cases x <;> simp [fRev, hx, fList, lRev, fRevT, revK]
@[simp] theorem wp_lScr {i : Nat} : Wp (lScr i δ) QA ↔ ∃ ns, δ[i]? = some (.scr ns) ∧ ns.length ≤ 100000 ∧ QA (ns.map .int, δ) := by
  unfold lScr
  rcases hx : δ[i]? with _ | s
  · simp
  rcases s with _ | d | (xs | kvs) | ns <;> simp
@[simp] theorem wp_lCallO {i : Nat} {m : MO} : Wp (lCallO i m δ) QA ↔ ∃ ns, δ[i]? = some (.scr ns) ∧ Wp (m ns) fun xs => QA (xs, δ) := by
  unfold lCallO
  rcases hx : δ[i]? with _ | s
  · simp
  rcases s with _ | d | (xs | kvs) | ns <;> simp
  rcases m ns with _ | xs <;> simp
@[simp] theorem wp_lMul : Wp (lMul f g δ) QA ↔ Wp (f δ) fun p => ∃ xs, p.1 = .list xs ∧ Wp (g p.2) fun q => ∃ k, q.1 = .int k ∧ (0 ≤ k ∧ k ≤ 1000 ∧ xs.length ≤ 100) ∧ QA ((List.replicate k.toNat xs).flatten, q.2) := by
  unfold lMul
  rcases f δ with _ | ⟨x, δ1⟩
  · simp
  cases x <;> simp
  rcases g δ1 with _ | ⟨y, δ2⟩
  · simp
  cases y <;> simp
/-! ### statements -/
/-- what stands behind a statement -/
def thenK (gs : MS) (Q : Out → Prop) : Out → Prop
  | .nx δ => Wp (gs δ) Q
  | o => Q o
section
variable {fs gs : MS} {d : D}
@[simp] theorem thenK_n : thenK gs QS (.nx δ) ↔ Wp (gs δ) QS := Iff.rfl
@[simp] theorem thenK_r : thenK gs QS (.rt d δ) ↔ QS (.rt d δ) := Iff.rfl
@[simp] theorem thenK_b : thenK gs QS (.bk δ) ↔ QS (.bk δ) := Iff.rfl
@[simp] theorem thenK_c : thenK gs QS (.ct δ) ↔ QS (.ct δ) := Iff.rfl
@[simp] theorem thenK_e {c p} : thenK gs QS (.ex c p) ↔ QS (.ex c p) := Iff.rfl
@[simp] theorem wp_sSeq : Wp (sSeq fs gs δ) QS ↔ Wp (fs δ) (thenK gs QS) := by
  unfold sSeq
  rcases fs δ with _ | o
  · simp
  cases o <;> simp [thenK]
@[simp] theorem wp_sNil : Wp (sNil δ) QS ↔ QS (.nx δ) := by simp [sNil]
@[simp] theorem wp_sSet {i : Nat} : Wp (sSet i f δ) QS ↔ Wp (f δ) fun p => free0 i p.2 = true ∧ QS (.nx (p.2.set i (.sh p.1))) := by
  unfold sSet
  rcases f δ with _ | ⟨x, δ1⟩ <;> simp
@[simp] theorem wp_sSetO {i : Nat} : Wp (sSetO i fa δ) QS ↔ Wp (fa δ) fun p => free0 i p.2 = true ∧ QS (.nx (p.2.set i (.ow (.lst p.1)))) := by
  unfold sSetO
  rcases fa δ with _ | ⟨x, δ1⟩ <;> simp
def pairK (Q : D → D → Prop) : List D → Prop
  | [d, d'] => Q d d'
  | _ => False
@[simp] theorem pairK_p {Q : D → D → Prop} {d d' : D} : pairK Q [d, d'] ↔ Q d d' := Iff.rfl
@[simp] theorem wp_sPar {i j : Nat} : Wp (sPar i j fa δ) QS ↔ Wp (fa δ) fun p => pairK (fun d d' => (free0 i p.2 = true ∧ free0 j p.2 = true) ∧ QS (.nx ((p.2.set i (.sh d)).set j (.sh d')))) p.1 := by
  unfold sPar
  rcases fa δ with _ | ⟨x, δ1⟩
  · simp
  match x with
  | [] => simp [pairK]
  | [_] => simp [pairK]
  | [a, b] => simp [pairK]
  | _ :: _ :: _ :: _ => simp [pairK]
@[simp] theorem wp_sParO {i j : Nat} : Wp (sParO i j fa g δ) QS ↔ Wp (fa δ) fun p => Wp (g p.2) fun q => (free0 i q.2 = true ∧ free0 j q.2 = true ∧ i ≠ j) ∧ QS (.nx ((q.2.set i (.ow p.1)).set j (.sh q.1))) := by
  unfold sParO
  rcases fa δ with _ | ⟨x, δ1⟩ <;> simp
  rcases g δ1 with _ | ⟨y, δ2⟩ <;> simp
@[simp] theorem wp_sAsg {gg : MG} : Wp (sAsg gg f δ) QS ↔ Wp (f δ) fun p => Wp (gg p.1 p.2) fun δ2 => QS (.nx δ2) := by
  unfold sAsg
  rcases f δ with _ | ⟨x, δ1⟩ <;> simp
  rcases gg x δ1 with _ | δ2 <;> simp
@[simp] theorem wp_sIf : Wp (sIf tf fs gs δ) QS ↔ Wp (tf δ) fun p => (p.1 = true → Wp (fs p.2) QS) ∧ (p.1 = false → Wp (gs p.2) QS) := by
  unfold sIf
  rcases tf δ with _ | ⟨x, δ1⟩
  · simp
  cases x <;> simp
@[simp] theorem wp_sRet : Wp (sRet f δ) QS ↔ Wp (f δ) fun p => QS (.rt p.1 p.2) := by
  unfold sRet
  rcases f δ with _ | ⟨x, δ1⟩ <;> simp
@[simp] theorem wp_sRetO {i : Nat} : Wp (sRetO i δ) QS ↔ ∃ xs, δ[i]? = some (.ow (.lst xs)) ∧ i ≠ 0 ∧ QS (.rt (.list xs) (δ.set i (.sh (.list xs)))) := by
  unfold sRetO
  rcases hx : δ[i]? with _ | s
  · simp
  rcases s with _ | d | (xs | kvs) | ns <;> simp
@[simp] theorem wp_sRetN : Wp (sRetN δ) QS ↔ QS (.rt .none δ) := by simp [sRetN]
@[simp] theorem wp_sPass : Wp (sPass δ) QS ↔ QS (.nx δ) := by simp [sPass]
@[simp] theorem wp_sBrk : Wp (sBrk δ) QS ↔ QS (.bk δ) := by simp [sBrk]
@[simp] theorem wp_sCnt : Wp (sCnt δ) QS ↔ QS (.ct δ) := by simp [sCnt]
@[simp] theorem wp_sRaise {c : Str} : Wp (sRaise c δ) QS ↔ QS (.ex c none) := by simp [sRaise]
@[simp] theorem wp_sApp {i : Nat} : Wp (sApp i f δ) QS ↔ isLst δ i = true ∧ Wp (f δ) fun p => ∃ xs, p.2[i]? = some (.ow (.lst xs)) ∧ xs.length < 100000 ∧ QS (.nx (p.2.set i (.ow (xs ++ [p.1])))) := by
  unfold sApp
  by_cases h : isLst δ i = true <;> simp [h]
  rcases f δ with _ | ⟨x, δ1⟩ <;> simp
  rcases δ1[i]? with _ | s
  · simp
  rcases s with _ | d | (xs | kvs) | ns <;> simp
@[simp] theorem wp_sFor {gg : MG} : Wp (sFor fa gg fs δ) QS ↔ Wp (fa δ) fun p => Wp (forRun gg fs p.1 p.2) QS := by
  unfold sFor
  rcases fa δ with _ | ⟨ds, δ1⟩ <;> simp
@[simp] theorem wp_sWhile {n : Nat} : Wp (sWhile n tf fs δ) QS ↔ Wp (whRun tf fs n δ) QS := Iff.rfl
/-- what a turn of a loop leaves -/
def loopK (N : DE → Prop) (Q : Out → Prop) : Out → Prop
  | .nx δ => N δ
  | .ct δ => N δ
  | .bk δ => Q (.nx δ)
  | .rt d δ => Q (.rt d δ)
  | .ex c p => Q (.ex c p)
@[simp] theorem loopK_n {N : DE → Prop} : loopK N QS (.nx δ) ↔ N δ := Iff.rfl
@[simp] theorem loopK_c {N : DE → Prop} : loopK N QS (.ct δ) ↔ N δ := Iff.rfl
@[simp] theorem loopK_b {N : DE → Prop} : loopK N QS (.bk δ) ↔ QS (.nx δ) := Iff.rfl
@[simp] theorem loopK_r {N : DE → Prop} : loopK N QS (.rt d δ) ↔ QS (.rt d δ) := Iff.rfl
@[simp] theorem loopK_e {N : DE → Prop} {c p} : loopK N QS (.ex c p) ↔ QS (.ex c p) := Iff.rfl
theorem wp_forNil {gg : MG} : Wp (forRun gg fs [] δ) QS ↔ QS (.nx δ) := by simp [forRun]
theorem wp_forCons {gg : MG} {ds : List D} : Wp (forRun gg fs (d :: ds) δ) QS ↔ Wp (gg d δ) fun δ1 => Wp (fs δ1) (loopK (fun δ2 => Wp (forRun gg fs ds δ2) QS) QS) := by
  simp only [forRun]
  rcases gg d δ with _ | δ1 <;> simp
  rcases fs δ1 with _ | o
  · simp
  cases o <;> simp [loopK]
/-- a loop by a word of what is left and of the slots -/
theorem wp_for {gg : MG} (I : List D → DE → Prop) : ∀ {ds : List D} {δ : DE}, I ds δ →
    (∀ d ds δ, I (d :: ds) δ → Wp (gg d δ) fun δ1 => Wp (fs δ1) (loopK (I ds) QS)) → (∀ δ, I [] δ → QS (.nx δ)) → Wp (forRun gg fs ds δ) QS
  | [], δ, h0, _, he => wp_forNil.mpr (he δ h0)
  | d :: ds, δ, h0, hs, he => by
    refine wp_forCons.mpr ((hs d ds δ h0).mono fun δ1 h1 => h1.mono fun o ho => ?_)
    cases o with
    | nx δ2 => exact wp_for I (ho : I ds δ2) hs he
    | ct δ2 => exact wp_for I (ho : I ds δ2) hs he
    | bk δ2 => exact ho
    | rt d δ2 => exact ho
    | ex c p => exact ho
/-- .. whose items are those of a typed list -/
theorem wp_forT {gg : MG} {α : Type} (en : α → D) (I : List α → DE → Prop) : ∀ {ds : List D} (xs : List α) {δ : DE}, ds = xs.map en → I xs δ →
    (∀ x xs δ, I (x :: xs) δ → Wp (gg (en x) δ) fun δ1 => Wp (fs δ1) (loopK (I xs) QS)) → (∀ δ, I [] δ → QS (.nx δ)) → Wp (forRun gg fs ds δ) QS
  | _, [], δ, e, h0, _, he => by
    subst e
    exact wp_forNil.mpr (he δ h0)
  | _, x :: xs, δ, e, h0, hs, he => by
    subst e
    refine wp_forCons.mpr ((hs x xs δ h0).mono fun δ1 h1 => h1.mono fun o ho => ?_)
    cases o with
    | nx δ2 => exact wp_forT en I xs rfl (ho : I xs δ2) hs he
    | ct δ2 => exact wp_forT en I xs rfl (ho : I xs δ2) hs he
    | bk δ2 => exact ho
    | rt d δ2 => exact ho
    | ex c p => exact ho
theorem wp_whZero : Wp (whRun tf fs 0 δ) QS ↔ False := by simp [whRun]
theorem wp_whSucc {n : Nat} : Wp (whRun tf fs (n + 1) δ) QS ↔ Wp (tf δ) fun p => (p.1 = false → QS (.nx p.2)) ∧ (p.1 = true → Wp (fs p.2) (loopK (fun δ2 => Wp (whRun tf fs n δ2) QS) QS)) := by
  simp only [whRun]
  rcases tf δ with _ | ⟨b, δ1⟩
  · simp
  cases b <;> simp
  rcases fs δ1 with _ | o
  · simp
  cases o <;> simp [loopK]
/-- a while by a word of a number that goes down -/
theorem wp_while (I : Nat → DE → Prop) {n : Nat} : ∀ {k : Nat} {δ : DE}, I k δ → k < n →
    (∀ k δ, I k δ → Wp (tf δ) fun p => (p.1 = false → QS (.nx p.2)) ∧ (p.1 = true → Wp (fs p.2) (loopK (fun δ2 => ∃ j, j < k ∧ I j δ2) QS))) → Wp (whRun tf fs n δ) QS := by
  induction n with
  | zero => intro k δ _ h; omega
  | succ n ih =>
    intro k δ h0 hk hs
    refine wp_whSucc.mpr ((hs k δ h0).mono fun p hp => ⟨hp.1, fun hb => (hp.2 hb).mono fun o ho => ?_⟩)
    cases o with
    | nx δ2 =>
      obtain ⟨j, hj, hI⟩ := (ho : ∃ j, j < k ∧ I j δ2)
      exact ih hI (by omega) hs
    | ct δ2 =>
      obtain ⟨j, hj, hI⟩ := (ho : ∃ j, j < k ∧ I j δ2)
      exact ih hI (by omega) hs
    | bk δ2 => exact ho
    | rt d δ2 => exact ho
    | ex c p => exact ho
/-! ### defs -/
/-- what a def leaves -/
def fnK (Q : Res → Prop) : Out → Prop
  | .rt d _ => Q (.ret d)
  | .nx _ => Q (.ret .none)
  | .ex c p => Q (.exc c p)
  | _ => False
@[simp] theorem fnK_r : fnK QF (.rt d δ) ↔ QF (.ret d) := Iff.rfl
@[simp] theorem fnK_n : fnK QF (.nx δ) ↔ QF (.ret .none) := Iff.rfl
@[simp] theorem fnK_e {c p} : fnK QF (.ex c p) ↔ QF (.exc c p) := Iff.rfl
@[simp] theorem fnK_b : fnK QF (.bk δ) ↔ False := Iff.rfl
@[simp] theorem fnK_c : fnK QF (.ct δ) ↔ False := Iff.rfl
@[simp] theorem wp_mOf {n p : Nat} {ds : List D} : Wp (mOf n p fs ds) QF ↔ ds.length = p ∧ Wp (fs (ds.map .sh ++ List.replicate (n - p) .no)) (fnK QF) := by
  unfold mOf
  by_cases h : ds.length = p
  · rw [if_pos h]
    generalize fs _ = z
    rcases z with _ | o
    · simp
    cases o <;> simp [fnK, h]
  · rw [if_neg h]
    simp [h]
/-- what a def with a lent list leaves -/
def cupK (Q : D × List D → Prop) : Out → Prop
  | .rt d δ => ∃ ys, δ[0]? = some (.ow (.lst ys)) ∧ Q (d, ys)
  | .nx δ => ∃ ys, δ[0]? = some (.ow (.lst ys)) ∧ Q (.none, ys)
  | _ => False
@[simp] theorem cupK_r : cupK QC (.rt d δ) ↔ ∃ ys, δ[0]? = some (.ow (.lst ys)) ∧ QC (d, ys) := Iff.rfl
@[simp] theorem cupK_n : cupK QC (.nx δ) ↔ ∃ ys, δ[0]? = some (.ow (.lst ys)) ∧ QC (.none, ys) := Iff.rfl
@[simp] theorem cupK_e {c p} : cupK QC (.ex c p) ↔ False := Iff.rfl
@[simp] theorem cupK_b : cupK QC (.bk δ) ↔ False := Iff.rfl
@[simp] theorem cupK_c : cupK QC (.ct δ) ↔ False := Iff.rfl
@[simp] theorem wp_mOfC {n p : Nat} {xs ds : List D} : Wp (mOfC n p fs xs ds) QC ↔ ds.length + 1 = p ∧ Wp (fs (.ow xs :: (ds.map .sh ++ List.replicate (n - p) .no))) (cupK QC) := by
  unfold mOfC
  by_cases h : ds.length + 1 = p
  · rw [if_pos h]
    generalize fs _ = z
    rcases z with _ | o
    · simp
    cases o
    case nx δ' =>
      rcases hx : δ'[0]? with _ | s
      · simp [cupK, hx]
      rcases s with _ | d | (xs | kvs) | ns <;> simp [cupK, hx, h]
    case rt d δ' =>
      rcases hx : δ'[0]? with _ | s
      · simp [cupK, hx]
      rcases s with _ | d | (xs | kvs) | ns <;> simp [cupK, hx, h]
    all_goals simp [cupK]
  · rw [if_neg h]
    simp [h]
/-- what the law leaves -/
def lawK (Q : D → Prop) : Out → Prop
  | .rt d _ => Q d
  | _ => False
@[simp] theorem lawK_r : lawK QD (.rt d δ) ↔ QD d := Iff.rfl
@[simp] theorem lawK_n : lawK QD (.nx δ) ↔ False := Iff.rfl
@[simp] theorem lawK_e {c p} : lawK QD (.ex c p) ↔ False := Iff.rfl
@[simp] theorem wp_mOfL {n : Nat} {ns : List Int} : Wp (mOfL n fs ns) QD ↔ Wp (fs (.scr ns :: List.replicate (n - 1) .no)) (lawK QD) := by
  unfold mOfL
  rcases fs (.scr ns :: List.replicate (n - 1) .no) with _ | o
  · simp
  cases o <;> simp [lawK]
@[simp] theorem wp_oSeq : Wp (oSeq fs fa δ) QA ↔ Wp (fs δ) fun o => ∃ δ1, o = .nx δ1 ∧ Wp (fa δ1) QA := by
  unfold oSeq
  rcases fs δ with _ | o
  · simp
  cases o <;> simp
@[simp] theorem wp_mOfO {n : Nat} {ns : List Int} {QL : List D → Prop} : Wp (mOfO n fa ns) QL ↔ Wp (fa (.scr ns :: List.replicate (n - 1) .no)) fun p => QL p.1 := by
  unfold mOfO
  rcases fa (.scr ns :: List.replicate (n - 1) .no) with _ | ⟨xs, δ⟩ <;> simp
end
/-! ### slots at hand -/
@[simp] theorem isOw_cons0 {xs : Ob} {r : DE} : isOw (.ow xs :: r) 0 = true := rfl
@[simp] theorem isLst_cons0 {xs : List D} {r : DE} : isLst (.ow (.lst xs) :: r) 0 = true := rfl
@[simp] theorem isLst_succ {s : Slot} {r : DE} {i : Nat} : isLst (s :: r) (i + 1) = isLst r i := by simp [isLst]
@[simp] theorem isOw_succ {s : Slot} {r : DE} {i : Nat} : isOw (s :: r) (i + 1) = isOw r i := by simp [isOw]
@[simp] theorem isOw_at0 {s : Slot} {r : DE} : isOw (s :: r) 0 = (match s with | .ow _ => true | _ => false) := by cases s <;> rfl
@[simp] theorem free0_succ {i : Nat} : free0 (i + 1) δ = true := by
  unfold free0
  rcases δ[0]? with _ | s
  · rfl
  cases s <;> rfl
@[simp] theorem free0_sh {d : D} {r : DE} : free0 0 (.sh d :: r) = true := rfl
@[simp] theorem free0_no {r : DE} : free0 0 (.no :: r) = true := rfl
@[simp] theorem free0_scr {ns : List Int} {r : DE} : free0 0 (.scr ns :: r) = true := rfl
@[simp] theorem free0_ow {xs : Ob} {r : DE} : free0 0 (.ow xs :: r) = false := rfl
@[simp] theorem noOwn_nil : noOwn [] δ = true := rfl
@[simp] theorem noOwn_cons {v : Nat} {vs : List Nat} : noOwn (v :: vs) δ = (!isOw δ v && noOwn vs δ) := by
  unfold noOwn isOw
  rw [List.all_cons]
  rcases δ[v]? with _ | s
  · rfl
  cases s <;> rfl
@[simp] theorem wipeD_nil : wipeD δ [] = δ := rfl
@[simp] theorem wipeD_cons {v : Nat} {vs : List Nat} : wipeD δ (v :: vs) = (wipeD δ vs).set v .no := rfl
@[simp] theorem mergeD_nil {δ1 : DE} : mergeD δ1 δ [] = δ := rfl
@[simp] theorem mergeD_cons {δ1 : DE} {v : Nat} {vs : List Nat} : mergeD δ1 δ (v :: vs) = (mergeD δ1 δ vs).set v (δ1[v]?.getD .no) := rfl
/-! ### operators -/
section
variable {i j : Int} {xs ys : List D} {x y : Str} {a b : Bool}
@[simp] theorem wp_add_i : Wp (opAdd (.int i) (.int j)) QD ↔ QD (.int (i + j)) := by simp [opAdd]
@[simp] theorem wp_add_t : Wp (opAdd (.tuple xs) (.tuple ys)) QD ↔ xs.length + ys.length ≤ 100000 ∧ QD (.tuple (xs ++ ys)) := by simp [opAdd]
@[simp] theorem wp_add_l : Wp (opAdd (.list xs) (.list ys)) QD ↔ xs.length + ys.length ≤ 100000 ∧ QD (.list (xs ++ ys)) := by simp [opAdd]
@[simp] theorem wp_add_s : Wp (opAdd (.str x) (.str y)) QD ↔ x.length + y.length ≤ 100000 ∧ QD (.str (x ++ y)) := by simp [opAdd]
@[simp] theorem wp_sub_i : Wp (opSub (.int i) (.int j)) QD ↔ QD (.int (i - j)) := by simp [opSub]
@[simp] theorem wp_mul_i : Wp (opMul (.int i) (.int j)) QD ↔ (small i || small j) = true ∧ QD (.int (i * j)) := by simp [opMul]
@[simp] theorem wp_mul_l : Wp (opMul (.list xs) (.int j)) QD ↔ (0 ≤ j ∧ j ≤ 1000 ∧ xs.length ≤ 100) ∧ QD (.list (List.replicate j.toNat xs).flatten) := by simp [opMul]
@[simp] theorem wp_mul_t : Wp (opMul (.tuple xs) (.int j)) QD ↔ (2 ≤ j ∧ j ≤ 1000 ∧ xs.length ≤ 100 ∧ xs ≠ []) ∧ QD (.tuple (List.replicate j.toNat xs).flatten) := by simp [opMul]
@[simp] theorem wp_div_i : Wp (opDiv (.int i) (.int j)) QD ↔ (j ≠ 0 ∧ j.natAbs < 1073741824) ∧ QD (.int (i.fdiv j)) := by simp [opDiv]
@[simp] theorem wp_mod_i : Wp (opMod (.int i) (.int j)) QD ↔ j ≠ 0 ∧ QD (.int (i.fmod j)) := by simp [opMod]
@[simp] theorem wp_pow_i : Wp (opPow (.int i) (.int j)) QD ↔ (0 ≤ j ∧ j ≤ 1000 ∧ small i = true) ∧ QD (.int (i ^ j.toNat)) := by simp [opPow]
@[simp] theorem wp_lt_i {QB : Bool → Prop} : Wp (cLt (.int i) (.int j)) QB ↔ QB (decide (i < j)) := by simp [cLt]
@[simp] theorem wp_le_i {QB : Bool → Prop} : Wp (cLe (.int i) (.int j)) QB ↔ QB (decide (i ≤ j)) := by simp [cLe]
@[simp] theorem wp_gt_i {QB : Bool → Prop} : Wp (cGt (.int i) (.int j)) QB ↔ QB (decide (j < i)) := by simp [cGt]
@[simp] theorem wp_ge_i {QB : Bool → Prop} : Wp (cGe (.int i) (.int j)) QB ↔ QB (decide (j ≤ i)) := by simp [cGe]
@[simp] theorem wp_eq {QB : Bool → Prop} {d e : D} : Wp (cEq d e) QB ↔ (SeqAt.shaped d = true ∧ SeqAt.shaped e = true) ∧ QB (PyData.eqv d e) := by simp [cEq]
@[simp] theorem wp_ne {QB : Bool → Prop} {d e : D} : Wp (cNe d e) QB ↔ (SeqAt.shaped d = true ∧ SeqAt.shaped e = true) ∧ QB (!PyData.eqv d e) := by simp [cNe]
@[simp] theorem wp_isn {QB : Bool → Prop} {d : D} : Wp (cIs d .none) QB ↔ QB (isNone d) := by cases d <;> simp [cIs]
@[simp] theorem wp_isb {QB : Bool → Prop} : Wp (cIs (.bool a) (.bool b)) QB ↔ QB (decide (a = b)) := by simp [cIs]
@[simp] theorem wp_notn {QB : Bool → Prop} {d : D} : Wp (cIsN d .none) QB ↔ QB (!isNone d) := by cases d <;> simp [cIsN]
@[simp] theorem wp_notb {QB : Bool → Prop} : Wp (cIsN (.bool a) (.bool b)) QB ↔ QB (!decide (a = b)) := by simp [cIsN]
@[simp] theorem wp_truth_b {QB : Bool → Prop} : Wp (truth (.bool a)) QB ↔ QB a := by simp [truth]
@[simp] theorem wp_truth_i {QB : Bool → Prop} : Wp (truth (.int i)) QB ↔ QB (i != 0) := by simp [truth]
@[simp] theorem wp_truth_n {QB : Bool → Prop} : Wp (truth .none) QB ↔ QB false := by simp [truth]
@[simp] theorem wp_truth_l {QB : Bool → Prop} : Wp (truth (.list xs)) QB ↔ QB (!xs.isEmpty) := by simp [truth]
@[simp] theorem wp_truth_t {QB : Bool → Prop} : Wp (truth (.tuple xs)) QB ↔ QB (!xs.isEmpty) := by simp [truth]
@[simp] theorem wp_ix_l : Wp (ixD (.list xs) (.int i)) QD ↔ Wp (atI xs i) QD := Iff.rfl
@[simp] theorem wp_ix_t : Wp (ixD (.tuple xs) (.int i)) QD ↔ Wp (atI xs i) QD := Iff.rfl
@[simp] theorem wp_len_l : Wp (uLen (.list xs)) QD ↔ QD (.int xs.length) := by simp [uLen]
@[simp] theorem wp_len_t : Wp (uLen (.tuple xs)) QD ↔ QD (.int xs.length) := by simp [uLen]
@[simp] theorem wp_tup_l : Wp (uTup (.list xs)) QD ↔ QD (.tuple xs) := by simp [uTup]
@[simp] theorem wp_tup_t : Wp (uTup (.tuple xs)) QD ↔ QD (.tuple xs) := by simp [uTup]
@[simp] theorem wp_list_l {QL : List D → Prop} : Wp (uList (.list xs)) QL ↔ QL xs := by simp [uList]
@[simp] theorem wp_list_t {QL : List D → Prop} : Wp (uList (.tuple xs)) QL ↔ QL xs := by simp [uList]
@[simp] theorem wp_abs : Wp (uAbs (.int i)) QD ↔ QD (.int (if i < 0 then -i else i)) := by simp [uAbs]
@[simp] theorem wp_int_i : Wp (uInt (.int i)) QD ↔ QD (.int i) := by simp [uInt]
@[simp] theorem wp_not_in {QB : Bool → Prop} {d e : D} : Wp (cNotIn d e) QB ↔ Wp (cIn d e) fun k => QB (!k) := by simp [cNotIn]
end
end
end Pd

/-! Facts of operators, tests and typed data for Wp. -/
namespace Pd
open PySem PySem.Spec PyProof.Rows L2
section
variable {QD : D → Prop} {QB : Bool → Prop} {QA : List D × DE → Prop} {Q : D × DE → Prop} {δ : DE}
@[simp] theorem is_tuple_n : uIs "tuple" .none = some (.bool false) := by rfl
@[simp] theorem is_tuple_b {k : Bool} : uIs "tuple" (.bool k) = some (.bool false) := by rfl
@[simp] theorem is_tuple_i {i : Int} : uIs "tuple" (.int i) = some (.bool false) := by rfl
@[simp] theorem is_tuple_s {x : Str} : uIs "tuple" (.str x) = some (.bool false) := by rfl
@[simp] theorem is_tuple_l {ds : List D} : uIs "tuple" (.list ds) = some (.bool false) := by rfl
@[simp] theorem is_tuple_t {ds : List D} : uIs "tuple" (.tuple ds) = some (.bool true) := by rfl
@[simp] theorem is_list_n : uIs "list" .none = some (.bool false) := by rfl
@[simp] theorem is_list_b {k : Bool} : uIs "list" (.bool k) = some (.bool false) := by rfl
@[simp] theorem is_list_i {i : Int} : uIs "list" (.int i) = some (.bool false) := by rfl
@[simp] theorem is_list_s {x : Str} : uIs "list" (.str x) = some (.bool false) := by rfl
@[simp] theorem is_list_l {ds : List D} : uIs "list" (.list ds) = some (.bool true) := by rfl
@[simp] theorem is_list_t {ds : List D} : uIs "list" (.tuple ds) = some (.bool false) := by rfl
@[simp] theorem is_int_n : uIs "int" .none = some (.bool false) := by rfl
@[simp] theorem is_int_b {k : Bool} : uIs "int" (.bool k) = some (.bool true) := by rfl
@[simp] theorem is_int_i {i : Int} : uIs "int" (.int i) = some (.bool true) := by rfl
@[simp] theorem is_int_s {x : Str} : uIs "int" (.str x) = some (.bool false) := by rfl
@[simp] theorem is_int_l {ds : List D} : uIs "int" (.list ds) = some (.bool false) := by rfl
@[simp] theorem is_int_t {ds : List D} : uIs "int" (.tuple ds) = some (.bool false) := by rfl
@[simp] theorem is_bool_n : uIs "bool" .none = some (.bool false) := by rfl
@[simp] theorem is_bool_b {k : Bool} : uIs "bool" (.bool k) = some (.bool true) := by rfl
@[simp] theorem is_bool_i {i : Int} : uIs "bool" (.int i) = some (.bool false) := by rfl
@[simp] theorem is_bool_s {x : Str} : uIs "bool" (.str x) = some (.bool false) := by rfl
@[simp] theorem is_bool_l {ds : List D} : uIs "bool" (.list ds) = some (.bool false) := by rfl
@[simp] theorem is_bool_t {ds : List D} : uIs "bool" (.tuple ds) = some (.bool false) := by rfl
@[simp] theorem is_str_n : uIs "str" .none = some (.bool false) := by rfl
@[simp] theorem is_str_b {k : Bool} : uIs "str" (.bool k) = some (.bool false) := by rfl
@[simp] theorem is_str_i {i : Int} : uIs "str" (.int i) = some (.bool false) := by rfl
@[simp] theorem is_str_s {x : Str} : uIs "str" (.str x) = some (.bool true) := by rfl
@[simp] theorem is_str_l {ds : List D} : uIs "str" (.list ds) = some (.bool false) := by rfl
@[simp] theorem is_str_t {ds : List D} : uIs "str" (.tuple ds) = some (.bool false) := by rfl
@[simp] theorem isNone_n : isNone .none = true := rfl
@[simp] theorem isNone_b {k : Bool} : isNone (.bool k) = false := rfl
@[simp] theorem isNone_i {i : Int} : isNone (.int i) = false := rfl
@[simp] theorem isNone_s {x : Str} : isNone (.str x) = false := rfl
@[simp] theorem isNone_l {ds : List D} : isNone (.list ds) = false := rfl
@[simp] theorem isNone_t {ds : List D} : isNone (.tuple ds) = false := rfl
/-! ### depth -/
/-- data that can be compared, at most n deep -/
def shn (n : Nat) (d : D) : Bool := d.canLay0 && decide (d.depth ≤ n)
@[simp] theorem shaped_eq {d : D} : SeqAt.shaped d = shn 64 d := rfl
theorem shn_all {n : Nat} : ∀ {ds : List D}, (PyData.canLayAll0 ds && decide (PyData.depthAll ds ≤ n)) = ds.all (shn n)
  | [] => by simp [PyData.canLayAll0, PyData.depthAll]
  | d :: r => by
    rw [List.all_cons, ← shn_all, Bool.eq_iff_iff]
    simp only [Bool.and_eq_true, decide_eq_true_eq, PyData.canLayAll0, PyData.depthAll, shn, Nat.max_le]
    exact ⟨fun ⟨⟨a, b⟩, c, e⟩ => ⟨⟨a, c⟩, b, e⟩, fun ⟨⟨a, c⟩, b, e⟩ => ⟨⟨a, b⟩, c, e⟩⟩
@[simp] theorem shn_i {n : Nat} {i : Int} : shn n (.int i) = true := by simp [shn, PyData.canLay0, PyData.depth]
@[simp] theorem shn_n {n : Nat} : shn n .none = true := by simp [shn, PyData.canLay0, PyData.depth]
@[simp] theorem shn_b {n : Nat} {k : Bool} : shn n (.bool k) = true := by simp [shn, PyData.canLay0, PyData.depth]
@[simp] theorem shn_l {n : Nat} {ds : List D} : shn (n + 1) (.list ds) = ds.all (shn n) := by
  rw [← shn_all]
  simp [shn, PyData.canLay0, PyData.depth]
@[simp] theorem shn_t {n : Nat} {ds : List D} : shn (n + 1) (.tuple ds) = ds.all (shn n) := by
  rw [← shn_all]
  simp [shn, PyData.canLay0, PyData.depth]
@[simp] theorem shn_tI {n : Nat} {ns : List Int} : shn (n + 1) (tI ns) = true := by
  unfold tI
  rw [shn_t]
  simp
theorem eqv_self {d : D} (h : shn 64 d = true) : PyData.eqv d d = true := PySem.SeqAt.eqv_refl d (SeqAt.canLay_of_shaped h)
/-! ### what is equal -/
@[simp] theorem eqv_ii {i j : Int} : PyData.eqv (.int i) (.int j) = decide (i = j) := by simp only [PyData.eqv]; rfl
@[simp] theorem eqv_bb {i j : Bool} : PyData.eqv (.bool i) (.bool j) = decide (i = j) := by simp only [PyData.eqv]; cases i <;> cases j <;> rfl
@[simp] theorem eqv_ss {i j : Str} : PyData.eqv (.str i) (.str j) = decide (i = j) := by simp only [PyData.eqv]; rfl
@[simp] theorem eqv_nn : PyData.eqv .none .none = true := by simp [PyData.eqv]
@[simp] theorem eqv_ni {i : Int} : PyData.eqv .none (.int i) = false := by simp [PyData.eqv]
@[simp] theorem eqv_in {i : Int} : PyData.eqv (.int i) .none = false := by simp [PyData.eqv]
@[simp] theorem eqv_nt {ds : List D} : PyData.eqv .none (.tuple ds) = false := by simp [PyData.eqv]
@[simp] theorem eqv_tn {ds : List D} : PyData.eqv (.tuple ds) .none = false := by simp [PyData.eqv]
@[simp] theorem eqv_nl {ds : List D} : PyData.eqv .none (.list ds) = false := by simp [PyData.eqv]
@[simp] theorem eqv_ln {ds : List D} : PyData.eqv (.list ds) .none = false := by simp [PyData.eqv]
@[simp] theorem eqv_it {i : Int} {ds : List D} : PyData.eqv (.int i) (.tuple ds) = false := by simp [PyData.eqv]
@[simp] theorem eqv_ti {i : Int} {ds : List D} : PyData.eqv (.tuple ds) (.int i) = false := by simp [PyData.eqv]
@[simp] theorem eqv_tt {xs ys : List D} : PyData.eqv (.tuple xs) (.tuple ys) = PyData.eqvAll xs ys := by simp [PyData.eqv]
@[simp] theorem eqv_ll {xs ys : List D} : PyData.eqv (.list xs) (.list ys) = PyData.eqvAll xs ys := by simp [PyData.eqv]
@[simp] theorem eqvAll_nn : PyData.eqvAll [] [] = true := by simp [PyData.eqvAll]
@[simp] theorem eqvAll_cn {x : D} {xs : List D} : PyData.eqvAll (x :: xs) [] = false := by simp [PyData.eqvAll]
@[simp] theorem eqvAll_nc {x : D} {xs : List D} : PyData.eqvAll [] (x :: xs) = false := by simp [PyData.eqvAll]
@[simp] theorem eqvAll_cc {x y : D} {xs ys : List D} : PyData.eqvAll (x :: xs) (y :: ys) = (PyData.eqv x y && PyData.eqvAll xs ys) := by simp [PyData.eqvAll]
theorem eqvAll_map {α : Type} [DecidableEq α] {f : α → D} (h : ∀ a b, PyData.eqv (f a) (f b) = decide (a = b)) : ∀ xs ys : List α, PyData.eqvAll (xs.map f) (ys.map f) = decide (xs = ys)
  | [], [] => by simp
  | [], _ :: _ => by simp
  | _ :: _, [] => by simp
  | x :: xs, y :: ys => by simp [h, eqvAll_map h xs ys]
@[simp] theorem eqvAll_ii {xs ys : List Int} : PyData.eqvAll (xs.map .int) (ys.map .int) = decide (xs = ys) := eqvAll_map (fun _ _ => eqv_ii) xs ys
@[simp] theorem eqv_tItI {a b : List Int} : PyData.eqv (tI a) (tI b) = decide (a = b) := by unfold tI; simp
@[simp] theorem eqvAll_tI {xs ys : List (List Int)} : PyData.eqvAll (xs.map tI) (ys.map tI) = decide (xs = ys) := eqvAll_map (fun _ _ => eqv_tItI) xs ys
@[simp] theorem eqv_tIn {a : List Int} : PyData.eqv (tI a) .none = false := by simp [tI]
@[simp] theorem eqv_ntI {a : List Int} : PyData.eqv .none (tI a) = false := by simp [tI]
@[simp] theorem eqvAll_nil {xs : List D} : PyData.eqvAll xs [] = xs.isEmpty := by cases xs <;> simp
/-! ### tuples of whole numbers -/
variable {ns ms : List Int} {i : Int} {pl ph : PO'} {g : M}
@[simp] theorem seqK_tI : seqK QA (tI ns, δ) ↔ QA (ns.map .int, δ) := Iff.rfl
@[simp] theorem zipK_tI : zipK g QA (tI ns, δ) ↔ Wp (g δ) fun q => ∃ ys, q.1 = .tuple ys ∧ QA (zipD (ns.map .int) ys, q.2) := Iff.rfl
@[simp] theorem wp_add_tI : Wp (opAdd (tI ns) (tI ms)) QD ↔ ns.length + ms.length ≤ 100000 ∧ QD (tI (ns ++ ms)) := by simp [tI]
@[simp] theorem wp_add_tI1 : Wp (opAdd (tI ns) (.tuple [.int i])) QD ↔ ns.length + 1 ≤ 100000 ∧ QD (tI (ns ++ [i])) := by simp [tI]
@[simp] theorem wp_len_tI : Wp (uLen (tI ns)) QD ↔ QD (.int ns.length) := by simp [tI]
@[simp] theorem wp_tup_tI : Wp (uTup (tI ns)) QD ↔ QD (tI ns) := by simp [tI]
@[simp] theorem wp_list_tI {QL : List D → Prop} : Wp (uList (tI ns)) QL ↔ QL (ns.map .int) := by simp [tI]
@[simp] theorem is_tuple_tI : uIs "tuple" (tI ns) = some (.bool true) := rfl
@[simp] theorem wp_truth_tI : Wp (truth (tI ns)) QB ↔ QB (!ns.isEmpty) := by simp [tI]
@[simp] theorem isNone_tI : isNone (tI ns) = false := rfl
theorem atI_map {α β : Type} (f : α → β) (xs : List α) (i : Int) : atI (xs.map f) i = (atI xs i).map f := by
  unfold atI
  rw [List.length_map]
  cases ixN xs.length i with
  | none => rfl
  | some j => simp
@[simp] theorem wp_ix_tI : Wp (ixD (tI ns) (.int i)) QD ↔ Wp (atI ns i) fun v => QD (.int v) := by
  show Wp (atI (ns.map PyData.int) i) QD ↔ _
  rw [atI_map]
  simp
@[simp] theorem wp_atI_map {α : Type} {f : α → D} {xs : List α} : Wp (atI (xs.map f) i) QD ↔ Wp (atI xs i) fun v => QD (f v) := by
  rw [atI_map]
  simp
theorem wp_atI {α : Type} {xs : List α} {k : Nat} {Q : α → Prop} (h : k < xs.length) (q : Q xs[k]) : Wp (atI xs (k : Int)) Q := wp_of_eq (atI_nat (List.getElem?_eq_getElem h)) q
theorem wp_atI_int {α : Type} {xs : List α} {Q : α → Prop} (h0 : 0 ≤ i) (h : i < xs.length) (q : Q (xs[i.toNat]'(by omega))) : Wp (atI xs i) Q := by
  obtain ⟨k, rfl⟩ : ∃ k : Nat, i = k := ⟨i.toNat, by omega⟩
  exact wp_atI (by omega) q
theorem wp_ixN {n k : Nat} {Q : Nat → Prop} (h : k < n) (q : Q k) : Wp (ixN n (k : Int)) Q := wp_of_eq (Evl.ixN_nat h) q
/-- a comprehension without a test -/
theorem wp_cAll {gg : MG} {f : M} {vs : List Nat} {ds : List D} {α : Type} (en : α → D) (xs : List α) (o : α → D) (hd : ds = xs.map en)
    (hs : ∀ x ∈ xs, Wp (gg (en x) δ) fun δ1 => Wp (f δ1) fun q => q.1 = o x ∧ wipeD q.2 vs = δ) (he : QA (xs.map o, δ)) : Wp (cRun gg tTrue f vs ds δ) QA :=
  wp_cMap en xs (fun _ => true) o hd (fun x hx => (hs x hx).mono fun δ1 h => by simpa using h) (by rw [List.filter_eq_self.mpr fun _ _ => rfl]; exact he)
/-- a loop by a word of how many turns are behind it -/
theorem wp_forI {fs : MS} {QS : Out → Prop} {gg : MG} {ds : List D} (I : Nat → DE → Prop) (h0 : I 0 δ)
    (hs : ∀ i d δ, ds[i]? = some d → I i δ → Wp (gg d δ) fun δ1 => Wp (fs δ1) (loopK (I (i + 1)) QS)) (he : ∀ δ, I ds.length δ → QS (.nx δ)) : Wp (forRun gg fs ds δ) QS := by
  refine wp_for (fun rem δ => ∃ i, ds.drop i = rem ∧ i ≤ ds.length ∧ I i δ) ⟨0, List.drop_zero, Nat.zero_le _, h0⟩ (fun d rem δ h => ?_) (fun δ h => ?_)
  · obtain ⟨i, e, hi, h⟩ := h
    have hl : i < ds.length := by
      rcases Nat.lt_or_ge i ds.length with q | q
      · exact q
      · rw [List.drop_of_length_le q] at e
        cases e
    have e1 : ds[i]? = some d := by
      rw [← List.head?_drop, e]
      rfl
    have e2 : ds.drop (i + 1) = rem := by
      rw [← List.tail_drop, e]
      rfl
    refine (hs i d δ e1 h).mono fun δ1 h1 => h1.mono fun o ho => ?_
    cases o with
    | nx δ2 => exact ⟨i + 1, e2, hl, ho⟩
    | ct δ2 => exact ⟨i + 1, e2, hl, ho⟩
    | bk δ2 => exact ho
    | rt d δ2 => exact ho
    | ex c p => exact ho
  · obtain ⟨i, e, hi, h⟩ := h
    have : i = ds.length := by
      have := congrArg List.length e
      simp at this
      omega
    subst this
    exact he δ h
@[simp] theorem len_enumD : ∀ {k : Nat} {xs : List D}, (enumD k xs).length = xs.length
  | _, [] => rfl
  | i, x :: xs => by simp only [enumD, List.length_cons, len_enumD (k := i + 1) (xs := xs)]
theorem get_enumD : ∀ (k : Nat) (xs : List D) (i : Nat) (d : D), (enumD k xs)[i]? = some d → ∃ x, xs[i]? = some x ∧ d = .tuple [.int ((k + i : Nat) : Int), x]
  | k, [], i, d, h => by simp [enumD] at h
  | k, x :: xs, 0, d, h => ⟨x, rfl, (Option.some.inj h).symm⟩
  | k, x :: xs, i + 1, d, h => by
    obtain ⟨z, h1, h2⟩ := get_enumD (k + 1) xs i d h
    exact ⟨z, h1, by rw [h2, show k + 1 + i = k + (i + 1) by omega]⟩
/-- .. over enumerate -/
theorem wp_forE {fs : MS} {QS : Out → Prop} {gg : MG} {α : Type} (en : α → D) (xs : List α) (I : Nat → DE → Prop) (h0 : I 0 δ)
    (hs : ∀ i x δ, xs[i]? = some x → I i δ → Wp (gg (.tuple [.int (i : Nat), en x]) δ) fun δ1 => Wp (fs δ1) (loopK (I (i + 1)) QS)) (he : ∀ δ, I xs.length δ → QS (.nx δ)) : Wp (forRun gg fs (enumD 0 (xs.map en)) δ) QS := by
  refine wp_forI I h0 (fun i d δ hd h => ?_) (fun δ h => he δ (by simpa using h))
  obtain ⟨x, hx, rfl⟩ := get_enumD _ _ _ _ hd
  rw [List.getElem?_map] at hx
  cases hq : xs[i]? with
  | none =>
    rw [hq] at hx
    cases hx
  | some y =>
    rw [hq] at hx
    cases hx
    rw [Nat.zero_add]
    exact hs i y δ hq h
/-- what is returned -/
def lawRes : Option Out → Option D
  | some (.rt d _) => some d
  | _ => none
theorem wp_lawK_of {o : Option Out} {d : D} (h : lawRes o = some d) : Wp o (lawK (· = d)) := by
  rcases o with _ | o
  · cases h
  · cases o with
    | rt e δ => exact ⟨_, rfl, Option.some.inj h⟩
    | _ => cases h
end
end Pd

/-! Dicts. -/
namespace Pd
open PySem PySem.Spec PyProof.Rows L2
open Evl (Ex)
/-! ### keys -/
def keyOf : D → Option Key
  | .int i => some (.inl i)
  | .str x => some (.inr x)
  | _ => none
def keysL : List D → Option (List Key)
  | [] => some []
  | d :: r => match keyOf d, keysL r with
    | some k, some ks => some (k :: ks)
    | _, _ => none
def keysOf : D → Option (List Key)
  | .tuple ds => keysL ds
  | _ => none
theorem keyOf_eq {d : D} {k : Key} (h : keyOf d = some k) : d = keyD k := by
  cases d <;> simp only [keyOf] at h <;> cases h <;> rfl
theorem keysL_eq : ∀ {ds : List D} {ks : List Key}, keysL ds = some ks → ds = ks.map keyD
  | [], ks, h => by cases h; rfl
  | d :: r, ks, h => by
    simp only [keysL] at h
    cases h1 : keyOf d with
    | none => rw [h1] at h; cases h
    | some k =>
      cases h2 : keysL r with
      | none => rw [h1, h2] at h; cases h
      | some ks' =>
        rw [h1, h2] at h
        cases h
        rw [List.map_cons, ← keyOf_eq h1, ← keysL_eq h2]
theorem keysOf_eq {d : D} {ks : List Key} (h : keysOf d = some ks) : d = keysD ks := by
  cases d <;> simp only [keysOf] at h <;> first | cases h | skip
  rw [keysD, ← keysL_eq h]
theorem keyOf_keyD (k : Key) : keyOf (keyD k) = some k := by cases k <;> rfl
theorem keysL_map : ∀ ks : List Key, keysL (ks.map keyD) = some ks
  | [] => rfl
  | k :: r => by rw [List.map_cons]; simp only [keysL, keyOf_keyD, keysL_map r]
theorem keysOf_keysD (ks : List Key) : keysOf (keysD ks) = some ks := keysL_map ks
theorem dq_key {S : Hp} {v : V} {k : Key} (h : Dq S v (keyD k)) : v = kV k := by
  cases k with
  | inl i => exact dq_int h
  | inr x => exact dq_str h
theorem dqa_kV {S : Hp} : ∀ {vs : List V} {ks : List Key}, DqAll S vs (ks.map keyD) → vs = ks.map kV
  | vs, [], h => by cases h; rfl
  | vs, k :: r, h => by
    rw [List.map_cons] at h
    cases h with
    | cons a t => rw [dq_key a, dqa_kV t, List.map_cons]
theorem dq_keys {S : Hp} {v : V} {ks : List Key} (h : Dq S v (keysD ks)) : ∃ b, v = .ref b ∧ S b = some (.tup (ks.map kV)) := by
  obtain ⟨b, vs, e, e1, e2⟩ := dq_tup h
  exact ⟨b, e, by rw [e1, dqa_kV e2]⟩
@[simp] theorem eqv_keyD (a b : Key) : PyData.eqv (keyD a) (keyD b) = decide (a = b) := by
  cases a <;> cases b <;> simp [keyD, PyData.eqv]
@[simp] theorem eqv_keysD (a b : List Key) : PyData.eqv (keysD a) (keysD b) = decide (a = b) := by
  unfold keysD
  rw [eqv_tt]
  exact eqvAll_map eqv_keyD a b
/-! ### what dicts hold -/
/-- whether the keys are tuples -/
def isTk : List (D × D) → Bool
  | (.none, _) :: _ => true
  | _ => false
@[simp] theorem isTk_nil : isTk [] = false := rfl
@[simp] theorem isTk_cons_n {v : D} {r : List (D × D)} : isTk ((.none, v) :: r) = true := rfl
@[simp] theorem isTk_cons_i {i : Int} {v : D} {r : List (D × D)} : isTk ((.int i, v) :: r) = false := rfl
theorem isTk_kD (kk : List (Key × D)) : isTk (kD kk) = false := by
  cases kk with
  | nil => rfl
  | cons p r => obtain ⟨k, v⟩ := p; cases k <;> rfl
theorem isTk_tD (kk : List (List Key × D)) : isTk (tD kk) = true := rfl
def fits (kvs : List (D × D)) (k : D) : Bool := if isTk kvs = true then (keysOf k).isSome else (keyOf k).isSome
def lkD (kvs : List (D × D)) (k : D) : Option D := (kvs.find? fun p => PyData.eqv p.1 k).map (·.2)
def dGet (kvs : List (D × D)) (k : D) : Option (Option D) := if fits kvs k = true then some (lkD kvs k) else none
def putD (kvs : List (D × D)) (k v : D) : List (D × D) := if (kvs.any fun p => PyData.eqv p.1 k) = true then kvs.map fun p => if PyData.eqv p.1 k = true then (p.1, v) else p else kvs ++ [(k, v)]
def dPut (kvs : List (D × D)) (k v : D) : Option (List (D × D)) := if fits kvs k = true ∧ kvs.length ≤ 100000 then some (putD kvs k v) else none
section
variable {κ : Type} [DecidableEq κ]
theorem look_rel {S : Hp} {enc : κ → D} (he : ∀ a b, PyData.eqv (enc a) (enc b) = decide (a = b)) (k : κ) : ∀ {kws : List (κ × V)} {kk : List (κ × D)}, kws.map (·.1) = kk.map (·.1) → DqAll S (kws.map (·.2)) (kk.map (·.2)) →
    (valV kws k = none ∧ lkD (kk.map fun p => (enc p.1, p.2)) (enc k) = none) ∨ ∃ v d, valV kws k = some v ∧ lkD (kk.map fun p => (enc p.1, p.2)) (enc k) = some d ∧ Dq S v d
  | [], [], _, _ => .inl ⟨rfl, rfl⟩
  | [], _ :: _, h, _ => by simp at h
  | _ :: _, [], h, _ => by simp at h
  | (a, v) :: r, (b, d) :: s, h, q => by
    simp only [List.map_cons, List.cons.injEq] at h
    obtain ⟨rfl, h⟩ := h
    simp only [List.map_cons] at q
    cases q with
    | cons q1 q2 =>
      by_cases e : a = k
      · refine .inr ⟨v, d, valV_pos (p := (a, v)) e, ?_, q1⟩
        simp [lkD, List.find?_cons, he, e]
      · rw [valV_neg (p := (a, v)) e]
        have : lkD (((a, d) :: s).map fun p => (enc p.1, p.2)) (enc k) = lkD (s.map fun p => (enc p.1, p.2)) (enc k) := by simp [lkD, List.find?_cons, he, e]
        rw [this]
        exact look_rel he k h q2
theorem any_rel {enc : κ → D} (he : ∀ a b, PyData.eqv (enc a) (enc b) = decide (a = b)) (k : κ) : ∀ {kws : List (κ × V)} {kk : List (κ × D)}, kws.map (·.1) = kk.map (·.1) → (kws.any fun kv => decide (kv.1 = k)) = ((kk.map fun p => (enc p.1, p.2)).any fun p => PyData.eqv p.1 (enc k))
  | [], [], _ => rfl
  | [], _ :: _, h => by simp at h
  | _ :: _, [], h => by simp at h
  | (a, v) :: r, (b, d) :: s, h => by
    simp only [List.map_cons, List.cons.injEq] at h
    obtain ⟨rfl, h⟩ := h
    simp only [List.any_cons, List.map_cons, any_rel he k h, he]
theorem put_map {S : Hp} {enc : κ → D} (he : ∀ a b, PyData.eqv (enc a) (enc b) = decide (a = b)) (k : κ) {v : V} {d : D} (hd : Dq S v d) : ∀ {kws : List (κ × V)} {kk : List (κ × D)}, kws.map (·.1) = kk.map (·.1) → DqAll S (kws.map (·.2)) (kk.map (·.2)) →
    (kws.map fun kv => if kv.1 = k then (kv.1, v) else kv).map (·.1) = (kk.map fun kv => if kv.1 = k then (kv.1, d) else kv).map (·.1) ∧ DqAll S ((kws.map fun kv => if kv.1 = k then (kv.1, v) else kv).map (·.2)) ((kk.map fun kv => if kv.1 = k then (kv.1, d) else kv).map (·.2)) ∧
    ((kk.map fun p => (enc p.1, p.2)).map fun p => if PyData.eqv p.1 (enc k) = true then (p.1, d) else p) = (kk.map fun kv => if kv.1 = k then (kv.1, d) else kv).map fun p => (enc p.1, p.2)
  | [], [], _, _ => ⟨rfl, .nil, rfl⟩
  | [], _ :: _, h, _ => by simp at h
  | _ :: _, [], h, _ => by simp at h
  | (a, x) :: r, (b, y) :: s, h, q => by
    simp only [List.map_cons, List.cons.injEq] at h
    obtain ⟨rfl, h⟩ := h
    simp only [List.map_cons] at q
    cases q with
    | cons q1 q2 =>
      obtain ⟨i1, i2, i3⟩ := put_map he k hd h q2
      by_cases e : a = k
      · simp only [List.map_cons, e, if_true, he, decide_true]
        exact ⟨by rw [i1], .cons hd i2, by rw [i3]⟩
      · simp only [List.map_cons, e, if_false, he, decide_false, Bool.false_eq_true]
        exact ⟨by rw [i1], .cons q1 i2, by rw [i3]⟩
theorem put_rel {S : Hp} {enc : κ → D} (he : ∀ a b, PyData.eqv (enc a) (enc b) = decide (a = b)) (k : κ) {v : V} {d : D} (hd : Dq S v d) {kws : List (κ × V)} {kk : List (κ × D)} (h : kws.map (·.1) = kk.map (·.1)) (q : DqAll S (kws.map (·.2)) (kk.map (·.2))) :
    ∃ kk', putD (kk.map fun p => (enc p.1, p.2)) (enc k) d = kk'.map (fun p => (enc p.1, p.2)) ∧ KvOk S (putK kws k v) kk' := by
  unfold putD putK
  rw [any_rel he k h]
  split
  · obtain ⟨i1, i2, i3⟩ := put_map he k hd h q
    exact ⟨_, i3, i1, i2⟩
  · refine ⟨kk ++ [(k, d)], by simp, ?_, ?_⟩
    · simp [h]
    · rw [List.map_append, List.map_append]
      exact dqa_app q (.cons hd .nil)
end
theorem lk_tD (kk : List (List Key × D)) (ks : List Key) : lkD (tD kk) (keysD ks) = lkD (kk.map fun p => (keysD p.1, p.2)) (keysD ks) := by
  simp [lkD, tD, List.find?_cons, keysD]
theorem put_tD (kk : List (List Key × D)) (ks : List Key) (d : D) : putD (tD kk) (keysD ks) d = (.none, .none) :: putD (kk.map fun p => (keysD p.1, p.2)) (keysD ks) d := by
  have : PyData.eqv .none (keysD ks) = false := by simp [keysD]
  unfold putD tD
  simp only [List.any_cons, this, Bool.false_or, List.map_cons, Bool.false_eq_true, if_false]
  split <;> rfl
/-- what a dict holds, told by the rules -/
theorem dget_of {S H : Hp} {a : Addr} {o : HO} {kvs : List (D × D)} {y : V} {k : D} {r : Option D} (ha : H a = some o) (ex : Ex S H) (hd : DictAt S o kvs) (hy : Dq S y k) (hg : dGet kvs k = some r) :
    ∃ ov, DGet H a y ov ∧ ((ov = none ∧ r = none) ∨ ∃ v d, ov = some v ∧ r = some d ∧ Dq S v d) := by
  unfold dGet at hg
  split at hg
  · rename_i hf
    cases hg
    unfold fits at hf
    rcases hd with ⟨kws, kk, rfl, rfl, h1, h2⟩ | ⟨kws, kk, rfl, rfl, h1, h2⟩
    · rw [isTk_kD, if_neg Bool.false_ne_true] at hf
      obtain ⟨k', hk⟩ := Option.isSome_iff_exists.mp hf
      obtain rfl := keyOf_eq hk
      obtain rfl := dq_key hy
      refine ⟨_, DGet.k ha, ?_⟩
      rcases look_rel eqv_keyD k' h1 h2 with ⟨e1, e2⟩ | ⟨v, d, e1, e2, e3⟩
      · exact .inl ⟨e1, e2⟩
      · exact .inr ⟨v, d, e1, e2, e3⟩
    · rw [isTk_tD, if_pos rfl] at hf
      obtain ⟨k', hk⟩ := Option.isSome_iff_exists.mp hf
      obtain rfl := keysOf_eq hk
      obtain ⟨b, rfl, hb⟩ := dq_keys hy
      refine ⟨_, DGet.t ha (ex _ _ hb), ?_⟩
      rw [lk_tD]
      rcases look_rel eqv_keysD k' h1 h2 with ⟨e1, e2⟩ | ⟨v, d, e1, e2, e3⟩
      · exact .inl ⟨e1, e2⟩
      · exact .inr ⟨v, d, e1, e2, e3⟩
  · cases hg
/-- .. and takes -/
theorem dput_of {S H : Hp} {a : Addr} {o : HO} {kvs kvs' : List (D × D)} {y v : V} {k d : D} (ha : H a = some o) (ex : Ex S H) (hd : DictAt S o kvs) (hy : Dq S y k) (hv : Dq S v d) (hg : dPut kvs k d = some kvs') :
    ∃ o', DPut H a y v (upd H a o') ∧ DictAt S o' kvs' := by
  unfold dPut at hg
  split at hg
  · rename_i hf
    obtain ⟨hf, hz⟩ := hf
    cases hg
    unfold fits at hf
    rcases hd with ⟨kws, kk, rfl, rfl, h1, h2⟩ | ⟨kws, kk, rfl, rfl, h1, h2⟩
    · rw [isTk_kD, if_neg Bool.false_ne_true] at hf
      obtain ⟨k', hk⟩ := Option.isSome_iff_exists.mp hf
      obtain rfl := keyOf_eq hk
      obtain rfl := dq_key hy
      obtain ⟨kk', e1, e2⟩ := put_rel eqv_keyD k' hv h1 h2
      have hl : kws.length = kk.length := by simpa using congrArg List.length h1
      have hz' : kk.length ≤ 100000 := by simpa [kD] using hz
      exact ⟨_, DPut.k ha (Nat.lt_of_le_of_lt (hl ▸ hz') (by decide)), .inl ⟨_, kk', rfl, e1, e2⟩⟩
    · rw [isTk_tD, if_pos rfl] at hf
      obtain ⟨k', hk⟩ := Option.isSome_iff_exists.mp hf
      obtain rfl := keysOf_eq hk
      obtain ⟨b, rfl, hb⟩ := dq_keys hy
      obtain ⟨kk', e1, e2⟩ := put_rel eqv_keysD k' hv h1 h2
      have hl : kws.length = kk.length := by simpa using congrArg List.length h1
      have hz' : kk.length ≤ 100000 := by
        have : (tD kk).length = kk.length + 1 := by simp [tD]
        omega
      refine ⟨_, DPut.t ha (ex _ _ hb) (Nat.lt_of_le_of_lt (hl ▸ hz') (by decide)), .inr ⟨_, kk', rfl, ?_, e2⟩⟩
      rw [put_tD, e1]
      rfl
  · cases hg
theorem dq_dict {H : Hp} {v : V} {kvs : List (D × D)} (h : Dq H v (.dict kvs)) : ∃ a o, v = .ref a ∧ H a = some o ∧ DictAt H o kvs := by
  cases h with
  | dcK e a b => exact ⟨_, _, rfl, e, .inl ⟨_, _, rfl, rfl, a, b⟩⟩
  | dcT e a b => exact ⟨_, _, rfl, e, .inr ⟨_, _, rfl, rfl, a, b⟩⟩
theorem dict_dq {S : Hp} {a : Addr} {o : HO} {kvs : List (D × D)} (e : S a = some o) (h : DictAt S o kvs) : Dq S (.ref a) (.dict kvs) := by
  rcases h with ⟨kws, kk, rfl, rfl, h1, h2⟩ | ⟨kws, kk, rfl, rfl, h1, h2⟩
  · exact .dcK e h1 h2
  · exact .dcT e h1 h2
/-! ### in, not in -/
theorem op_dIn {X : Cx} (hu : X.A.units + 1 < cLine) : OpR X (compareOp .In) fun y x H Q => ∃ a o, x = .ref a ∧ DGet H a y o ∧ Q (.bl o.isSome) H := by
  intro pins s σ H y x v u Q I ry rx h
  obtain ⟨a, o, rfl, g, q⟩ := h
  obtain rfl : u = Value.ref a := rx
  exact d_in hu I g ry fun s3 I3 => ⟨.bl o.isSome, H, I3, rfl, q⟩
theorem op_dNotIn {X : Cx} (hu : X.A.units + 1 < cLine) : OpR X (compareOp .NotIn) fun y x H Q => ∃ a o, x = .ref a ∧ DGet H a y o ∧ Q (.bl (!o.isSome)) H := by
  intro pins s σ H y x v u Q I ry rx h
  obtain ⟨a, o, rfl, g, q⟩ := h
  obtain rfl : u = Value.ref a := rx
  exact d_notIn hu I g ry fun s3 I3 => ⟨.bl (!o.isSome), H, I3, rfl, q⟩
def cInE : D → D → Option Bool
  | k, .dict kvs => (dGet kvs k).map (·.isSome)
  | d, e => cIn d e
def cNotInE (d e : D) : Option Bool := (cInE d e).map fun k => !k
theorem hu1 {n : Nat} {A : Around} (hr : Room n A) : A.units + 1 < cLine := by have := hr.un; omega
section
variable [TabSet] {X : Cx} {F : Fr} {e a b c tg : Expr} {es : List Expr} {pos p : Pos} {f g h : M} {tf : MT} {fa : MA} {x : Str} {k : Nat} {pf pg : PF}
theorem ck_inE {n : Nat} (hr : Room n X.A) : CmpOk X .In cInE := fun d e k hk => by
  cases e with
  | dict kvs =>
    simp only [cInE, Option.map_eq_some_iff] at hk
    obtain ⟨r, hg, rfl⟩ := hk
    refine ⟨_, op_dIn (hu1 hr), fun S H y v Q ex h1 h2 q => ?_⟩
    obtain ⟨a, o, rfl, e1, e2⟩ := dq_dict h2
    obtain ⟨ov, h3, h4⟩ := dget_of (ex _ _ e1) ex e2 h1 hg
    refine ⟨a, ov, rfl, h3, ?_⟩
    rcases h4 with ⟨rfl, rfl⟩ | ⟨_, _, rfl, rfl, _⟩ <;> exact q
  | _ => exact ck_in hr d _ k hk
theorem ck_notinE {n : Nat} (hr : Room n X.A) : CmpOk X .NotIn cNotInE := fun d e k hk => by
  cases e with
  | dict kvs =>
    simp only [cNotInE, cInE, Option.map_map, Option.map_eq_some_iff] at hk
    obtain ⟨r, hg, rfl⟩ := hk
    refine ⟨_, op_dNotIn (hu1 hr), fun S H y v Q ex h1 h2 q => ?_⟩
    obtain ⟨a, o, rfl, e1, e2⟩ := dq_dict h2
    obtain ⟨ov, h3, h4⟩ := dget_of (ex _ _ e1) ex e2 h1 hg
    refine ⟨a, ov, rfl, h3, ?_⟩
    rcases h4 with ⟨rfl, rfl⟩ | ⟨_, _, rfl, rfl, _⟩ <;> exact q
  | _ => exact ck_notin hr d _ k hk
/-! ### an own thing behind a comparison -/
omit [TabSet] in
/-- .. seen as a value -/
def obD : Ob → D
  | .lst xs => .list xs
  | .dct kvs => .dict kvs
theorem ob_dq {S : Hp} {a : Addr} {o : HO} {ob : Ob} (e : S a = some o) (h : ObOk S o ob) : Dq S (.ref a) (obD ob) := by
  cases ob with
  | lst xs => obtain ⟨vs, rfl, q⟩ := h; exact .lst e q
  | dct kvs => exact dict_dq e h
omit [TabSet] in
def fCmpR (i : Nat) (o : D → D → Option Bool) (g : M) : M := fun δ => match g δ with
  | some (d, δ1) => match δ1[i]? with
    | some (.ow ob) => match o d (obD ob) with
      | some k => some (.bool k, δ1)
      | none => none
    | _ => none
  | none => none
theorem cmpR_run {i : Nat} {op : CmpOp} {o : D → D → Option Bool} {S : Hp} {δ δ' : DE} {d : D} {σ : L2.St} {H : Hp} {Q : VK} (ho : CmpOk X op o) (R : RSt X.K F S H σ δ) (hf : fCmpR i o g δ = some (d, δ'))
    (q : ∀ v S' H', Stp S H S' H' σ δ δ' → RSt X.K F S' H' σ δ' → Dq S' v d → Q v H') : ∃ r : R2, OpR X (compareOp op) r ∧ SE X.K F g σ H fun y H2 => ∃ v, σ[i]? = some (some v) ∧ r y v H2 Q := by
  unfold fCmpR at hf
  split at hf
  · rename_i d1 δ1 h1
    split at hf
    · rename_i ob h2
      split at hf
      · rename_i k h3
        cases hf
        obtain ⟨r, k1, k2⟩ := ho _ _ k h3
        refine ⟨r, k1, S, δ, d1, _, R, h1, fun v S1 H1 s1 R1 dv => ?_⟩
        obtain ⟨a, oo, w1, w2, w3, w4⟩ := ob_addr R1 h2
        refine ⟨.ref a, w1, ?_⟩
        obtain ⟨x1, x2⟩ := ex_own R1.sub w2 w3
        exact k2 _ H1 v (.ref a) _ x2 (dq_ext x1 dv) (ob_dq upd_same (ob_ext x1 w4)) (q _ S1 H1 s1 R1 (.bl k))
      · cases hf
    · cases hf
  · cases hf
theorem e_cmpR {i : Nat} {px : Pos} {op : CmpOp} {o : D → D → Option Bool} (ho : CmpOk X op o) (hb : PE X b (SE X.K F g)) (hN : X.N[i]? = some x := by rfl) (hv : Vis X.env.scope x := by first | exact Or.inl rfl | exact Or.inr (Or.inl rfl) | exact Or.inr (Or.inr rfl)) (hd : (x == ("__debug__" : Str)) = false := by decide)
    (hcd : (x == ("__classdict__" : Str)) = false := by decide) (hm : behindInMarks op (.Name x px) = false := by first | exact nomark _ | rfl) : PE X (.Compare b [op] [.Name x px] pos) (SE X.K F (fCmpR i o g)) :=
  pe_of fun S δ d δ' σ H Q R hf q => by
    obtain ⟨r, h1, h3⟩ := cmpR_run ho R hf q
    exact ⟨_, pe_cmpR h1 hb (pe_var hN hv hd hcd) hm, h3⟩
omit [TabSet] in
def fCmpRT (i : Nat) (o : D → D → Option Bool) (g : M) : MT := fun δ => match fCmpR i o g δ with
  | some (.bool b, δ') => some (b, δ')
  | _ => none
theorem t_cmpR {i : Nat} {px : Pos} {op : CmpOp} {o : D → D → Option Bool} (ho : CmpOk X op o) (hb : PE X b (SE X.K F g)) (hN : X.N[i]? = some x := by rfl) (hv : Vis X.env.scope x := by first | exact Or.inl rfl | exact Or.inr (Or.inl rfl) | exact Or.inr (Or.inr rfl)) (hd : (x == ("__debug__" : Str)) = false := by decide)
    (hcd : (x == ("__classdict__" : Str)) = false := by decide) (hm : behindInMarks op (.Name x px) = false := by first | exact nomark _ | rfl) : PT X (.Compare b [op] [.Name x px] pos) (ST X.K F (fCmpRT i o g)) :=
  t_of_e (ff := fCmpR i o g) fun σ H Q hw => by
    obtain ⟨S, δ, d, δ', R, hf, q⟩ := hw
    obtain ⟨r, h1, h3⟩ := cmpR_run ho R hf q
    exact ⟨_, pt_cmpR h1 hb (pe_var hN hv hd hcd) hm, h3⟩
end
end Pd

/-! Dicts of one's own; places of what is one's own. -/
namespace Pd
open PySem PySem.Spec PyProof.Rows L2
open Evl (Ex)
variable [TabSet]
omit [TabSet] in
/-- a place of a list, a tuple, a text, a dict -/
def ixE : D → D → Option D
  | .dict kvs, k => (dGet kvs k).bind id
  | d, k => ixD d k
abbrev MO' := DE → Option (Ob × DE)
/-- a new thing that nobody else holds -/
def SFO (K : PySem.W.Frag) (F : Fr) (f : MO') : TE := fun σ H Q => ∃ S δ ob δ', RSt K F S H σ δ ∧ f δ = some (ob, δ') ∧
  ∀ a o S' H', Stp S H S' H' σ δ δ' → RSt K F S' H' σ δ' → H a = none → S' a = none → H' a = some o → ObOk S' o ob → Q (.ref a) H'
section
variable {X : Cx} {F : Fr} {e a b c tg : Expr} {es : List Expr} {pos p : Pos} {f g h : M} {tf : MT} {fa : MA} {x : Str} {k : Nat} {pf pg : PF} {W : WX} {fo : MO'}
theorem pfo_of (h : ∀ S δ ob δ' σ H Q, RSt X.K F S H σ δ → fo δ = some (ob, δ') → (∀ a o S' H', Stp S H S' H' σ δ δ' → RSt X.K F S' H' σ δ' → H a = none → S' a = none → H' a = some o → ObOk S' o ob → Q (.ref a) H') → ∃ t, PE X e t ∧ t σ H Q) : PE X e (SFO X.K F fo) :=
  ⟨fun pins s σ H Q I hw => by
    obtain ⟨S, δ, d, δ', R, hf, q⟩ := hw
    obtain ⟨t, ht, hq⟩ := h S δ d δ' σ H Q R hf q
    exact ht.run pins s σ H Q I hq⟩
/-! ### places -/
theorem ixE_of {x y : D} (h : ∀ kvs, x ≠ .dict kvs) : ixE x y = ixD x y := by
  cases x <;> first | rfl | exact absurd rfl (h _)
theorem e_ixE {n : Nat} (hr : Room n X.A) (ha : PE X a (SE X.K F f)) (hb : PE X b (SE X.K F g)) (hs : PlainIx b := by exact fun _ _ => rfl) : PE X (.Subscript a b pos) (SE X.K F (fOp ixE f g)) := by
  refine pe_of fun S δ d δ' σ H Q R hf q => ?_
  obtain ⟨x, δ1, y, h1, h2, h3⟩ := fOp_of hf
  by_cases hx : ∃ kvs, x = .dict kvs
  · obtain ⟨kvs, rfl⟩ := hx
    simp only [ixE, Option.bind_eq_some_iff, id] at h3
    obtain ⟨r, hg, rfl⟩ := h3
    refine ⟨_, pe_dget (hu1 hr) ha hb hs, S, δ, _, δ1, R, h1, fun v S1 H1 s1 R1 d1 => ⟨S1, δ1, y, _, R1, h2, fun w S2 H2 s2 R2 d2 => ?_⟩⟩
    obtain ⟨a, o, rfl, e1, e2⟩ := dq_dict (dq_ext s2.s d1)
    obtain ⟨ov, h3, h4⟩ := dget_of (R2.sub _ _ e1) R2.sub e2 d2 hg
    rcases h4 with ⟨_, h4⟩ | ⟨u, z, rfl, h4, dz⟩
    · cases h4
    · cases h4
      exact ⟨a, u, rfl, h3, q u S2 H2 (s1.trans s2) R2 dz⟩
  · rw [ixE_of fun kvs e => hx ⟨kvs, e⟩] at h3
    exact ⟨_, e_ix (F := F) ha hb hs, S, δ, d, δ', R, by unfold fOp; rw [h1]; simp only [h2, h3], q⟩
omit [TabSet] in
/-- a place of a thing of one's own -/
def fIxO (i : Nat) (g : M) : M := fun δ => if isOw δ i = true then match g δ with
    | some (y, δ1) => match δ1[i]? with
      | some (.ow ob) => (ixE (obD ob) y).map fun z => (z, δ1)
      | _ => none
    | none => none
  else none
theorem e_ixO {n : Nat} (hr : Room n X.A) {i : Nat} {px : Pos} (hb : PE X b (SE X.K F g)) (hN : X.N[i]? = some x := by rfl) (hv : Vis X.env.scope x := by first | exact Or.inl rfl | exact Or.inr (Or.inl rfl) | exact Or.inr (Or.inr rfl)) (hd : (x == ("__debug__" : Str)) = false := by decide)
    (hcd : (x == ("__classdict__" : Str)) = false := by decide) (hs : PlainIx b := by exact fun _ _ => rfl) : PE X (.Subscript (.Name x px) b pos) (SE X.K F (fIxO i g)) := by
  refine pe_of fun S δ d δ' σ H Q R hf q => ?_
  unfold fIxO at hf
  split at hf
  · rename_i ho
    obtain ⟨ob0, hz⟩ := isOw_of ho
    obtain ⟨a0, _, ea0, _⟩ := ob_addr R hz
    split at hf
    · rename_i y δ1 h1
      split at hf
      · rename_i ob h2
        cases h3 : ixE (obD ob) y with
        | none => rw [h3] at hf; cases hf
        | some z =>
          rw [h3] at hf
          cases hf
          cases ob with
          | dct kvs =>
            simp only [obD, ixE, Option.bind_eq_some_iff, id] at h3
            obtain ⟨r, hg, rfl⟩ := h3
            refine ⟨_, pe_dget (hu1 hr) (pe_var hN hv hd hcd) hb hs, .ref a0, ea0, S, δ, y, _, R, h1, fun w S2 H2 s2 R2 d2 => ?_⟩
            obtain ⟨a, o, w1, w2, w3, w4⟩ := ob_addr R2 h2
            rw [ea0] at w1
            cases w1
            obtain ⟨ov, h3, h4⟩ := dget_of w3 R2.sub w4 d2 hg
            rcases h4 with ⟨_, h4⟩ | ⟨u, z, rfl, h4, dz⟩
            · cases h4
            · cases h4
              exact ⟨a0, u, rfl, h3, q u S2 H2 s2 R2 dz⟩
          | lst xs =>
            cases y <;> simp only [obD, ixE, ixD] at h3 <;> first | cases h3 | skip
            refine ⟨_, pe_ix ix_list (pe_var hN hv hd hcd) hb hs, .ref a0, ea0, S, δ, _, _, R, h1, fun w S2 H2 s2 R2 d2 => ?_⟩
            obtain ⟨a, vs, w1, w2, w3, w4⟩ := ow_addr R2 h2
            rw [ea0] at w1
            cases w1
            obtain ⟨v, hv, dv⟩ := dqa_atI w4 h3
            exact ⟨a0, vs, _, v, rfl, dq_int d2, SqL.of w3, hv, q v S2 H2 s2 R2 dv⟩
      · cases hf
    · cases hf
  · cases hf
/-! ### x[k] = v, x a dict of one's own -/
omit [TabSet] in
def sPutO (i : Nat) (g f : M) : MS := fun δ => if isOw δ i = true then match f δ with
    | some (v, δ1) => match g δ1 with
      | some (k, δ2) => match δ2[i]? with
        | some (.ow (.dct kvs)) => match dPut kvs k v with
          | some kvs' => some (.nx (δ2.set i (.ow (.dct kvs'))))
          | none => none
        | _ => none
      | none => none
    | none => none
  else none
theorem s_putO {n : Nat} (hr : Room n X.A) {i : Nat} {px pos' : Pos} (hb : PE X b (SE X.K F g)) (ha : PE X a (SE X.K F f)) (hN : X.N[i]? = some x := by rfl) (hv : Vis X.env.scope x := by first | exact Or.inl rfl | exact Or.inr (Or.inl rfl) | exact Or.inr (Or.inr rfl)) (hd : (x == ("__debug__" : Str)) = false := by decide)
    (hcd : (x == ("__classdict__" : Str)) = false := by decide) (hs : swapsWith a (some (.Subscript (.Name x px) b pos')) pos.line X.env = pure false := by rfl) : PS X (.Assign [.Subscript (.Name x px) b pos'] a pos) (SS X.K X.mg F W (sPutO i g f)) :=
  ps_of (ps_dput (hu1 hr) (pe_var hN hv hd hcd) hb ha hs) fun Z σ H hw => by
    obtain ⟨S, δ, o, R, hf, q⟩ := hw
    unfold sPutO at hf
    split at hf
    · rename_i ho
      obtain ⟨ob0, hz⟩ := isOw_of ho
      obtain ⟨a0, _, ea0, _⟩ := ob_addr R hz
      split at hf
      · rename_i v δ1 h1
        split at hf
        · rename_i k δ2 h2
          split at hf
          · rename_i kvs h3
            split at hf
            · rename_i kvs' h4
              cases hf
              refine ⟨S, δ, v, δ1, R, h1, fun w S1 H1 s1 R1 d1 => ⟨.ref a0, ea0, S1, δ1, k, δ2, R1, h2, fun y S2 H2 s2 R2 d2 => ?_⟩⟩
              obtain ⟨a, oo, w1, w2, w3, w4⟩ := ob_addr R2 h3
              rw [ea0] at w1
              cases w1
              obtain ⟨o', h5, h6⟩ := dput_of w3 R2.sub w4 d2 (dq_ext s2.s d1) h4
              refine ⟨a0, _, rfl, h5, ?_⟩
              exact q σ S2 _ (s1.s.trans s2.s) (R2.mutO (ys := .dct kvs') h3 ea0 h6)
            · cases hf
          · cases hf
        · cases hf
      · cases hf
    · cases hf
/-! ### new dicts -/
omit [TabSet] in
/-- {}, to be of the kind that is wanted -/
def oNew (kind : DE → Bool) : MO' := fun δ => some (.dct (if kind δ = true then tD [] else []), δ)
theorem o_new {kind : DE → Bool} : PE X (.Dict [] [] pos) (SFO X.K F (oNew kind)) := by
  refine pfo_of fun S δ ob δ' σ H Q R hf q => ?_
  unfold oNew at hf
  cases hf
  cases hk : kind δ with
  | true =>
    refine ⟨_, pe_dnewT, fun p hp => ?_⟩
    obtain ⟨R2, s2, n2⟩ := lay_fresh (o := .dT []) R hp
    exact q p _ S _ s2 R2 hp n2 upd_same (.inr ⟨[], [], rfl, by rw [hk]; rfl, rfl, .nil⟩)
  | false =>
    refine ⟨_, pe_dnewK, fun p hp => ?_⟩
    obtain ⟨R2, s2, n2⟩ := lay_fresh (o := .dK []) R hp
    exact q p _ S _ s2 R2 hp n2 upd_same (.inl ⟨[], [], rfl, by rw [hk]; rfl, rfl, .nil⟩)
omit [TabSet] in
/-- name = a new thing, kept as one's own -/
def sSetB (i : Nat) (fo : MO') : MS := fun δ => match fo δ with
  | some (ob, δ1) => if free0 i δ1 = true then some (.nx (δ1.set i (.ow ob))) else none
  | none => none
theorem s_setB {i : Nat} {pos' : Pos} (hN : X.N.Nodup) (he : PE X e (SFO X.K F fo)) (hi : X.N[i]? = some x := by rfl) (hx : Loc X.env.scope x := by first | exact Or.inl rfl | exact Or.inr rfl) (hs : swapsWith e (some (.Name x pos')) pos.line X.env = pure false := by rfl)
    (hf : X.fn x = true ∨ X.env.scope.names.lookup x = some .local := by first | exact .inl rfl | exact .inr rfl) : PS X (.Assign [.Name x pos'] e pos) (SS X.K X.mg F W (sSetB i fo)) := ps_of (ps_set hN hi hx he hs hf) fun Z σ H hw => by
  obtain ⟨S, δ, o, R, hf, q⟩ := hw
  unfold sSetB at hf
  split at hf
  · rename_i d δ1 h1
    split at hf
    · rename_i h0
      cases hf
      refine ⟨S, δ, d, δ1, R, h1, fun a o S1 H1 s1 R1 n0 n1 e1 d1 => ?_⟩
      obtain ⟨z1, z2, z3⟩ := own_new R s1 n0
      exact q _ S1 H1 s1.s (R1.set_ow n1 (.inl z1) e1 d1 z3 i (free0_of h0))
    · cases hf
  · cases hf
/-! ### x.get(k), x.get(k, d) -/
theorem isD_of {H S : Hp} {a : Addr} {o : HO} {kvs : List (D × D)} (e : H a = some o) (h : DictAt S o kvs) : IsD H a := by
  rcases h with ⟨kws, kk, rfl, _⟩ | ⟨kws, kk, rfl, _⟩
  · exact .inl ⟨_, .inl e⟩
  · exact .inr ⟨_, .inl e⟩
omit [TabSet] in
def fGet1 (f g : M) : M := fun δ => match f δ with
  | some (.dict kvs, δ1) => match g δ1 with
    | some (k, δ2) => (dGet kvs k).map fun r => (r.getD .none, δ2)
    | none => none
  | _ => none
theorem e_get1 {n : Nat} (hr : Room n X.A) {apos : Pos} (ha : PE X a (SE X.K F f)) (hb : PE X b (SE X.K F g)) (m : M1 X a "get" apos b pos := by exact ⟨rfl, rfl, rfl, rfl⟩) : PE X (.Call (.Attribute a "get" apos) [b] [] pos) (SE X.K F (fGet1 f g)) := by
  refine pe_of fun S δ d δ' σ H Q R hf q => ⟨_, pe_dget1 (hu1 hr) ha hb m, ?_⟩
  unfold fGet1 at hf
  split at hf
  · rename_i kvs δ1 h1
    split at hf
    · rename_i k δ2 h2
      cases hg : dGet kvs k with
      | none => rw [hg] at hf; cases hf
      | some r =>
        rw [hg] at hf
        cases hf
        refine ⟨S, δ, _, δ1, R, h1, fun v S1 H1 s1 R1 d1 => ?_⟩
        obtain ⟨a0, o, rfl, e1, e2⟩ := dq_dict d1
        refine ⟨a0, rfl, isD_of (R1.sub _ _ e1) e2, S1, δ1, k, _, R1, h2, fun w S2 H2 s2 R2 d2 => ?_⟩
        obtain ⟨ov, h3, h4⟩ := dget_of (R2.sub _ _ (s2.s _ _ e1)) R2.sub (dict_ext s2.s e2) d2 hg
        refine ⟨ov, h3, ?_⟩
        rcases h4 with ⟨rfl, rfl⟩ | ⟨u, z, rfl, rfl, dz⟩
        · exact q _ S2 H2 (s1.trans s2) R2 .non
        · exact q _ S2 H2 (s1.trans s2) R2 dz
    · cases hf
  · cases hf
omit [TabSet] in
def fGet2 (f g h : M) : M := fun δ => match f δ with
  | some (.dict kvs, δ1) => match g δ1 with
    | some (k, δ2) => match h δ2 with
      | some (z, δ3) => (dGet kvs k).map fun r => (r.getD z, δ3)
      | none => none
    | none => none
  | _ => none
theorem e_get2 {n : Nat} (hr : Room n X.A) {apos : Pos} (ha : PE X a (SE X.K F f)) (hb : PE X b (SE X.K F g)) (hc : PE X c (SE X.K F h)) (m : M2 X a "get" apos b c pos := by exact ⟨rfl, rfl, rfl, rfl⟩) : PE X (.Call (.Attribute a "get" apos) [b, c] [] pos) (SE X.K F (fGet2 f g h)) := by
  refine pe_of fun S δ d δ' σ H Q R hf q => ⟨_, pe_dget2 (hu1 hr) ha hb hc m, ?_⟩
  unfold fGet2 at hf
  split at hf
  · rename_i kvs δ1 h1
    split at hf
    · rename_i k δ2 h2
      split at hf
      · rename_i z δ3 h3
        cases hg : dGet kvs k with
        | none => rw [hg] at hf; cases hf
        | some r =>
          rw [hg] at hf
          cases hf
          refine ⟨S, δ, _, δ1, R, h1, fun v S1 H1 s1 R1 d1 => ?_⟩
          obtain ⟨a0, o, rfl, e1, e2⟩ := dq_dict d1
          refine ⟨a0, rfl, isD_of (R1.sub _ _ e1) e2, S1, δ1, k, _, R1, h2, fun w S2 H2 s2 R2 d2 => ⟨S2, δ2, z, _, R2, h3, fun u S3 H3 s3 R3 d3 => ?_⟩⟩
          obtain ⟨ov, h4, h5⟩ := dget_of (R3.sub _ _ (s3.s _ _ (s2.s _ _ e1))) R3.sub (dict_ext s3.s (dict_ext s2.s e2)) (dq_ext s3.s d2) hg
          refine ⟨ov, h4, ?_⟩
          rcases h5 with ⟨rfl, rfl⟩ | ⟨u', z', rfl, rfl, dz⟩
          · exact q _ S3 H3 ((s1.trans s2).trans s3) R3 d3
          · exact q _ S3 H3 ((s1.trans s2).trans s3) R3 dz
      · cases hf
    · cases hf
  · cases hf
omit [TabSet] in
/-- .. of a dict of one's own -/
def fGet1O (i : Nat) (g : M) : M := fun δ => match δ[i]? with
  | some (.ow (.dct kvs0)) => match g δ with
    | some (k, δ2) => match δ2[i]? with
      | some (.ow (.dct kvs)) => (dGet kvs k).map fun r => (r.getD .none, δ2)
      | _ => none
    | none => none
  | _ => none
theorem e_get1O {n : Nat} (hr : Room n X.A) {i : Nat} {apos px : Pos} (hb : PE X b (SE X.K F g)) (hN : X.N[i]? = some x := by rfl) (hv : Vis X.env.scope x := by first | exact Or.inl rfl | exact Or.inr (Or.inl rfl) | exact Or.inr (Or.inr rfl)) (hd : (x == ("__debug__" : Str)) = false := by decide)
    (hcd : (x == ("__classdict__" : Str)) = false := by decide) (m : M1 X (.Name x px) "get" apos b pos := by exact ⟨rfl, rfl, rfl, rfl⟩) : PE X (.Call (.Attribute (.Name x px) "get" apos) [b] [] pos) (SE X.K F (fGet1O i g)) := by
  refine pe_of fun S δ d δ' σ H Q R hf q => ⟨_, pe_dget1 (hu1 hr) (pe_var hN hv hd hcd) hb m, ?_⟩
  unfold fGet1O at hf
  split at hf
  · rename_i kvs0 h0
    obtain ⟨a0, o0, ea0, _, e0, q0⟩ := ob_addr R h0
    split at hf
    · rename_i k δ2 h2
      split at hf
      · rename_i kvs h3
        cases hg : dGet kvs k with
        | none => rw [hg] at hf; cases hf
        | some r =>
          rw [hg] at hf
          cases hf
          refine ⟨.ref a0, ea0, a0, rfl, isD_of e0 q0, S, δ, k, _, R, h2, fun w S2 H2 s2 R2 d2 => ?_⟩
          obtain ⟨a, oo, w1, w2, w3, w4⟩ := ob_addr R2 h3
          rw [ea0] at w1
          cases w1
          obtain ⟨ov, h3, h4⟩ := dget_of w3 R2.sub w4 d2 hg
          refine ⟨ov, h3, ?_⟩
          rcases h4 with ⟨rfl, rfl⟩ | ⟨u, z, rfl, rfl, dz⟩
          · exact q _ S2 H2 s2 R2 .non
          · exact q _ S2 H2 s2 R2 dz
      · cases hf
    · cases hf
  · cases hf
omit [TabSet] in
def fGet2O (i : Nat) (g h : M) : M := fun δ => match δ[i]? with
  | some (.ow (.dct kvs0)) => match g δ with
    | some (k, δ2) => match h δ2 with
      | some (z, δ3) => match δ3[i]? with
        | some (.ow (.dct kvs)) => (dGet kvs k).map fun r => (r.getD z, δ3)
        | _ => none
      | none => none
    | none => none
  | _ => none
theorem e_get2O {n : Nat} (hr : Room n X.A) {i : Nat} {apos px : Pos} (hb : PE X b (SE X.K F g)) (hc : PE X c (SE X.K F h)) (hN : X.N[i]? = some x := by rfl) (hv : Vis X.env.scope x := by first | exact Or.inl rfl | exact Or.inr (Or.inl rfl) | exact Or.inr (Or.inr rfl)) (hd : (x == ("__debug__" : Str)) = false := by decide)
    (hcd : (x == ("__classdict__" : Str)) = false := by decide) (m : M2 X (.Name x px) "get" apos b c pos := by exact ⟨rfl, rfl, rfl, rfl⟩) : PE X (.Call (.Attribute (.Name x px) "get" apos) [b, c] [] pos) (SE X.K F (fGet2O i g h)) := by
  refine pe_of fun S δ d δ' σ H Q R hf q => ⟨_, pe_dget2 (hu1 hr) (pe_var hN hv hd hcd) hb hc m, ?_⟩
  unfold fGet2O at hf
  split at hf
  · rename_i kvs0 h0
    obtain ⟨a0, o0, ea0, _, e0, q0⟩ := ob_addr R h0
    split at hf
    · rename_i k δ2 h2
      split at hf
      · rename_i z δ3 h3
        split at hf
        · rename_i kvs h4
          cases hg : dGet kvs k with
          | none => rw [hg] at hf; cases hf
          | some r =>
            rw [hg] at hf
            cases hf
            refine ⟨.ref a0, ea0, a0, rfl, isD_of e0 q0, S, δ, k, _, R, h2, fun w S2 H2 s2 R2 d2 => ⟨S2, δ2, z, _, R2, h3, fun u S3 H3 s3 R3 d3 => ?_⟩⟩
            obtain ⟨a, oo, w1, w2, w3, w4⟩ := ob_addr R3 h4
            rw [ea0] at w1
            cases w1
            obtain ⟨ov, h5, h6⟩ := dget_of w3 R3.sub w4 (dq_ext s3.s d2) hg
            refine ⟨ov, h5, ?_⟩
            rcases h6 with ⟨rfl, rfl⟩ | ⟨u', z', rfl, rfl, dz⟩
            · exact q _ S3 H3 (s2.trans s3) R3 d3
            · exact q _ S3 H3 (s2.trans s3) R3 dz
        · cases hf
      · cases hf
    · cases hf
  · cases hf
/-! ### what is one's own is given to all -/
theorem RSt.giveO {K : PySem.W.Frag} {S H : Hp} {σ : L2.St} {δ : DE} (R : RSt K F S H σ δ) {i : Nat} {ob : Ob} (hd : δ[i]? = some (.ow ob)) (hi0 : i ≠ 0) : ∃ a S', σ[i]? = some (some (.ref a)) ∧ Ex S S' ∧ Dq S' (.ref a) (obD ob) ∧
    RSt K F S' H σ (δ.set i (.sh (obD ob))) := by
  have hl : i < σ.length := by rw [R.len]; exact (List.getElem?_eq_some_iff.mp hd).1
  obtain ⟨x, hx⟩ : ∃ x, σ[i]? = some x := ⟨_, List.getElem?_eq_getElem hl⟩
  obtain ⟨a, o, rfl, e1, e2, e3, e4⟩ := R.slot i _ _ hx hd
  have hex : Ex S (upd S a o) := Ex.new e1
  have hq : Dq (upd S a o) (.ref a) (obD ob) := ob_dq upd_same (ob_ext hex e4)
  refine ⟨a, upd S a o, hx, hex, hq, ?_⟩
  have hio' : F.io ≠ some a := fun e => by
    obtain ⟨p1, us, p2⟩ := R.pin a e
    exact hi0 (R.sep i 0 a _ us hd p2 hx p1)
  have h0 : F.H0 a = none := e2.resolve_right hio'
  refine ⟨fun b u h => ?_, R.base, R.dom0, fun t => ⟨(R.tb0 t).1, nt_upd (R.tb0 t).2 (ob_nt e4)⟩, R.s0.trans hex, fun b u h => ?_, R.iop, by rw [List.length_set]; exact R.len, fun j y s g1 g2 => ?_, fun j k b zs zs' g1 g2 g3 g4 => ?_, fun b h => ?_⟩
  · by_cases hb : b = a
    · subst hb; rw [upd_same] at h; cases h; exact e3
    · rw [upd_ne hb] at h; exact R.sub b u h
  · have hb : b ≠ a := fun z => by rw [z, h0] at h; cases h
    rw [upd_ne hb]; exact R.out b u h
  · by_cases hj : i = j
    · subst hj
      rw [hx] at g1; cases g1
      rw [List.getElem?_set_self (by rw [← R.len]; exact hl)] at g2; cases g2
      exact ⟨_, rfl, hq⟩
    · rw [List.getElem?_set_ne hj] at g2
      have q := R.slot j y s g1 g2
      cases s with
      | no => trivial
      | sh d =>
        obtain ⟨v, e, p⟩ := q
        exact ⟨v, e, dq_ext hex p⟩
      | scr ns =>
        obtain ⟨b, e, q⟩ := q
        exact ⟨b, e, Evl.ex_l hex q⟩
      | ow zs =>
        obtain ⟨b, us, f, f1, f2, f3, f4⟩ := q
        have hb : b ≠ a := fun z => by
          subst z
          rw [f] at g1
          exact hj (R.sep i j b _ zs hd g2 hx g1)
        exact ⟨b, us, f, by rw [upd_ne hb]; exact f1, f2, f3, ob_ext hex f4⟩
  · have nj : ∀ (m : Nat) us, (δ.set i (.sh (obD ob)))[m]? = some (.ow us) → δ[m]? = some (.ow us) := fun m us g => by
      by_cases hm : i = m
      · subst hm
        rw [List.getElem?_set_self (by rw [← R.len]; exact hl)] at g; cases g
      · rwa [List.getElem?_set_ne hm] at g
    exact R.sep j k b _ _ (nj j _ g1) (nj k _ g2) g3 g4
  · obtain ⟨p1, us, p2⟩ := R.pin b h
    exact ⟨p1, us, by rw [List.getElem?_set_ne hi0]; exact p2⟩
omit [TabSet] in
/-- return of what was one's own -/
def sRetB (i : Nat) : MS := fun δ => match δ[i]? with
  | some (.ow ob) => if i ≠ 0 then some (.rt (obD ob) (δ.set i (.sh (obD ob)))) else none
  | _ => none
theorem s_retB {i : Nat} {py : Pos} (hN : X.N[i]? = some x := by rfl) (hv : Vis X.env.scope x := by first | exact Or.inl rfl | exact Or.inr (Or.inl rfl) | exact Or.inr (Or.inr rfl)) (hd : (x == ("__debug__" : Str)) = false := by decide)
    (hcd : (x == ("__classdict__" : Str)) = false := by decide) : PS X (.Return (some (.Name x py)) pos) (SS X.K X.mg F W (sRetB i)) := ps_of (ps_ret (pe_var hN hv hd hcd)) fun Z σ H hw => by
  obtain ⟨S, δ, o, R, hf, q⟩ := hw
  unfold sRetB at hf
  split at hf
  · rename_i ob h1
    split at hf
    · rename_i h0
      cases hf
      obtain ⟨a, S1, w1, w3, w5, R1⟩ := R.giveO h1 h0
      exact ⟨.ref a, w1, q _ σ _ H w3 R1 w5⟩
    · cases hf
  · cases hf
end
end Pd

/-! extend, index, displays of one pair, ranges downward, max and min of two. -/
namespace Pd
open PySem PySem.Spec PyProof.Rows L2
open Evl (Ex)
section
variable {X : Cx} {k v : Expr} {pos : Pos} {tk tv : TE}
/-- {k: v}, k a tuple; the new dict stands empty while both are made -/
def tDisp1T (tk tv : TE) : TE := fun σ H Q => ∀ p, H p = none → tk σ (upd H p (.dT [])) fun x H1 => tv σ H1 fun y H2 => H2 p = some (.dT []) ∧ ∃ b ks, x = .ref b ∧ H2 b = some (.tup (ks.map kV)) ∧ Q (.ref p) (upd H2 p (.dT [(ks, y)]))
theorem pe_disp1T (hu : X.A.units + 1 < cLine) (hk : PE X k tk) (hv : PE X v tv) : PE X (.Dict [some k] [v] pos) (tDisp1T tk tv) := by
  refine ⟨fun pins s σ H Q I q => ?_⟩
  have hn := I.hok.fresh (Nat.le_refl s.heap.objs.size)
  have I1 := I.laid (a := s.heap.objs.size) (o := .dT []) (h' := s.heap.push { cls := .type "dict", data := .dict #[] }) (t' := s.toks) (fun _ _ z => Heap.get?_push_of_some _ z) (Nat.le_refl _) (dt_empty s.heap I.big)
  rw [arm_eval_Dict, zip_pairTrees [some k] [v] X.env pos rfl rfl, dictDisplay_pairs (pairTrees [some k] [v] X.env pos) (by intro z; simp [pairTrees] at z) (by simp [pairTrees])]
  refine wpAny_bind (wpAny_standAt (wpAny_bind (wpAny_subDictH (knd := tupleKind (mixKind X.prog X.w)) (Q := fun d s' => wpAny (model X.prog X.w) X.A (pure (Value.ref d)) (EP X pins σ Q) X.xe s') (Nat.lt_of_succ_lt hu) (by simp [pairTrees]) ?_)))
  refine pairTrees_cons_walk (thn (hk.run pins _ σ _ _ I1 (q _ hn)) fun u s1 ⟨x, H1, I2, rx, q1⟩ => thn (hv.run pins s1 σ H1 _ I2 q1) fun w2 s2 ⟨y, H2, I3, ry, e, b, ks, ex, eb, q2⟩ => pairTrees_nil_walk ?_)
  subst ex
  obtain rfl : u = Value.ref b := rx
  obtain ⟨z, hd, xs, r0, dd⟩ := dt_of I3.hok e
  cases r0
  refine ⟨[(ks, b, w2)], ⟨rfl, rfl, key_of I3.hok eb, True.intro⟩, dd, fun h' tk2 dd' hs => wpAny_pure ⟨.ref s.heap.objs.size, _, ?_, rfl, q2⟩⟩
  obtain ⟨ob, es, ep, hq, h2, h3, h4, _, h5⟩ := dd'
  refine d_write I3 (by rw [e]; exact True.intro) hs ⟨ob, hq⟩ ⟨by show (1 : Nat) ≤ sizeLine; decide, hd, _, .cons ⟨rfl, ?_, ry⟩ .nil, ob, es, ep, hq, h2, h3, h4, h5⟩
  rw [upd_ne (ne_of eb e (fun z => nomatch z))]
  exact eb
end
section
variable [TabSet] {X : Cx} {F : Fr} {e a b c tg : Expr} {es : List Expr} {pos p : Pos} {f g h : M} {tf : MT} {fa : MA} {x : Str} {k : Nat} {pf pg : PF} {W : WX} {fo : MO'}
omit [TabSet] in
/-- {k: v}, k a tuple -/
def oDisp1T (f g : M) : MO' := fun δ => match f δ with
  | some (kd, δ1) => match g δ1 with
    | some (d, δ2) => match keysOf kd with
      | some ks => some (.dct (tD [(ks, d)]), δ2)
      | none => none
    | none => none
  | none => none
theorem o_disp1T {n : Nat} (hr : Room n X.A) (ha : PE X a (SE X.K F f)) (hb : PE X b (SE X.K F g)) : PE X (.Dict [some a] [b] pos) (SFO X.K F (oDisp1T f g)) := by
  refine pfo_of fun S δ ob δ' σ H Q R hf q => ⟨_, pe_disp1T (hu1 hr) ha hb, fun p hp => ?_⟩
  unfold oDisp1T at hf
  split at hf
  · rename_i kd δ1 h1
    split at hf
    · rename_i d δ2 h2
      split at hf
      · rename_i ks h3
        cases hf
        obtain rfl := keysOf_eq h3
        obtain ⟨R0, s0, n0⟩ := lay_fresh (o := .dT []) R hp
        refine ⟨S, δ, _, δ1, R0, h1, fun v S1 H1 s1 R1 d1 => ⟨S1, δ1, d, _, R1, h2, fun w S2 H2 s2 R2 d2 => ?_⟩⟩
        have no : ∀ {τ : DE}, (∀ b, Own σ τ b → Own σ δ b) → ¬ Own σ τ p := fun ho o => by
          obtain ⟨u, q', _⟩ := R.own_in (ho p o)
          rw [hp] at q'
          cases q'
        have e1 : H1 p = some (.dT []) := s1.keep p _ upd_same (fun _ z => nomatch z) (no fun _ o => o)
        have e2 : H2 p = some (.dT []) := s2.keep p _ e1 (fun _ z => nomatch z) (no fun _ o => s1.own o)
        have n1 : S1 p = none := nt_none (s1.out p _ upd_same) n0 R1.sub e1 (by intro _ z; cases z)
        have n2 : S2 p = none := nt_none (s2.out p _ e1) n1 R2.sub e2 (by intro _ z; cases z)
        obtain ⟨b0, rfl, hb0⟩ := dq_keys (dq_ext s2.s d1)
        refine ⟨e2, b0, ks, rfl, R2.sub _ _ hb0, ?_⟩
        have sT := (s0.trans s1).trans s2
        have s3 : Stp S H S2 (upd H2 p (.dT [(ks, w)])) σ δ δ' := ⟨sT.s, sT.out, fun b u hb nt nw => by
          rw [upd_ne (ne_of_none hb hp)]
          exact sT.keep b u hb nt nw, fun b u hb => by
          obtain ⟨u', hu'⟩ := sT.dom b u hb
          by_cases z : b = p
          · subst z; exact ⟨_, upd_same⟩
          · exact ⟨u', by rw [upd_ne z]; exact hu'⟩, sT.kind, fun t => by
          have t2 := sT.tb t
          exact ⟨tabs_ob (S := S2) (ob := .dct (tD [])) t2.1 e2 (.inr ⟨[], [], rfl, rfl, rfl, .nil⟩), t2.2⟩⟩
        have npo := no (τ := δ') fun _ o => sT.own o
        obtain ⟨z1, z2⟩ := R.frz hp
        have R3 : RSt X.K F S2 (upd H2 p (.dT [(ks, w)])) σ δ' := by
          refine ⟨fun b u hb => ?_, fun b u hb nt nn => ?_, fun b u hb => ?_, fun t => ?_, R2.s0, R2.out, fun b hb => ?_, R2.len, fun i y s g1 g2 => ?_, R2.sep, R2.pin⟩
          · rw [upd_ne (fun z => by rw [z, n2] at hb; cases hb)]
            exact R2.sub b u hb
          · rw [upd_ne (fun z => by rw [z, z1] at hb; cases hb)]
            exact R2.base b u hb nt nn
          · rw [upd_ne (fun z => by rw [z, z1] at hb; cases hb)]
            exact R2.dom0 b u hb
          · have t2 := R2.tb0 t
            exact ⟨tabs_ob (S := S2) (ob := .dct (tD [])) t2.1 e2 (.inr ⟨[], [], rfl, rfl, rfl, .nil⟩), t2.2⟩
          · rw [upd_ne (fun z => z2 (by rw [← z]; exact hb))]
            exact R2.iop b hb
          · have q' := R2.slot i y s g1 g2
            cases s with
            | no => trivial
            | sh d => exact q'
            | scr ns => exact q'
            | ow zs =>
              obtain ⟨b, us, f0, f1, f2, f3, f4⟩ := q'
              exact ⟨b, us, f0, f1, f2, by rw [upd_ne (fun z => npo ⟨i, zs, g2, by rw [g1, f0, z]⟩)]; exact f3, f4⟩
        exact q p _ S2 _ s3 R3 hp n2 upd_same (.inr ⟨[(ks, w)], [(ks, d)], rfl, rfl, rfl, .cons d2 .nil⟩)
      · cases hf
    · cases hf
  · cases hf
/-! ### xs.extend(e) -/
omit [TabSet] in
def sExt (i : Nat) (f : M) : MS := fun δ => if isLst δ i = true then match f δ with
    | some (.list ds, δ1) => match δ1[i]? with
      | some (.ow (.lst xs)) => if xs.length + ds.length ≤ 100000 then some (.nx (δ1.set i (.ow (.lst (xs ++ ds))))) else none
      | _ => none
    | _ => none
  else none
theorem s_ext {i : Nat} {py apos pos2 : Pos} (ha : PE X a (SE X.K F f)) (hN : X.N[i]? = some x := by rfl) (hv : Vis X.env.scope x := by first | exact Or.inl rfl | exact Or.inr (Or.inl rfl) | exact Or.inr (Or.inr rfl)) (hd : (x == ("__debug__" : Str)) = false := by decide)
    (hcd : (x == ("__classdict__" : Str)) = false := by decide) (he : starEach (a :: []) X.env = (false, eval a X.env) :: starEach [] X.env := by rfl) (hbase : attributeBase (.Name x py) "extend" X.env (eval (.Name x py) X.env) = eval (.Name x py) X.env := by rfl)
    (hfew : ((backTo pos (starEach (a :: []) X.env)).all (fun x => !x.1) && (backToKw pos (keywordEach [] X.env)).all (fun x => x.1.isSome)
      && decide ((a :: []).length + ([] : List Keyword).length + (if ([] : List Keyword).isEmpty then 0 else 1) < 30)) = true := by rfl) (hs : swapsWith (.Call (.Attribute (.Name x py) "extend" apos) [a] [] pos) none pos2.line X.env = pure false := by rfl)
    (hline : (apos.endLine == pos.line) = true := by rfl) :
    PS X (.Expr (.Call (.Attribute (.Name x py) "extend" apos) [a] [] pos) pos2) (SS X.K X.mg F W (sExt i f)) :=
  ps_of (ps_expr (pe_bm PySem.F.plainAttrs_list PySem.F.slot_list_extend PySem.F.type_list_extend mt_extend (pe_var hN hv hd hcd) (pa_cons ha pa_nil he) (hbase := hbase) (hfew := hfew) (hline := hline) (hs := he)) hs) fun Z σ H hw => by
    obtain ⟨S, δ, o, R, hf, q⟩ := hw
    unfold sExt at hf
    split at hf
    · rename_i ho
      obtain ⟨zs, hz⟩ := isLst_of ho
      obtain ⟨a0, vs0, ea0, _, e0, _⟩ := ow_addr R hz
      split at hf
      · rename_i ds δ1 h1
        split at hf
        · rename_i xs h2
          split at hf
          · rename_i hlen
            cases hf
            refine ⟨.ref a0, ea0, .inl ⟨rfl, _, SqL.of e0⟩, S, δ, _, δ1, R, h1, fun v S1 H1 s1 R1 d1 => ?_⟩
            obtain ⟨a1, vs, w1, w2, w3, w4⟩ := ow_addr R1 h2
            rw [ea0] at w1
            cases w1
            obtain ⟨b0, us, rfl, e5, e6⟩ := dq_list d1
            refine ⟨a0, b0, vs, us, rfl, rfl, w3, R1.sub _ _ e5, sz_of (by rw [dqa_len w4, dqa_len e6]; exact hlen), ?_⟩
            exact q σ S1 _ s1.s (R1.mut h2 ea0 (dqa_app w4 e6))
          · cases hf
        · cases hf
      · cases hf
    · cases hf
/-! ### xs.index(y) -/
omit [TabSet] in
def uIndex (xs : List D) (y : D) : Option D := if shn 64 (.list xs) = true ∧ shn 64 y = true then (xs.findIdx? fun z => PyData.eqv z y).map fun j => .int (j : Nat) else none
omit [TabSet] in
def fIndex (f g : M) : M := fun δ => match f δ with
  | some (.list xs, δ1) => match g δ1 with
    | some (y, δ2) => (uIndex xs y).map fun z => (z, δ2)
    | none => none
  | _ => none
theorem e_index {n : Nat} (hr : Room n X.A) {apos : Pos} (ha : PE X a (SE X.K F f)) (hb : PE X b (SE X.K F g)) (he : starEach (b :: []) X.env = (false, eval b X.env) :: starEach [] X.env := by rfl) (hbase : attributeBase a "index" X.env (eval a X.env) = eval a X.env := by rfl)
    (hfew : ((backTo pos (starEach (b :: []) X.env)).all (fun x => !x.1) && (backToKw pos (keywordEach [] X.env)).all (fun x => x.1.isSome)
      && decide ((b :: []).length + ([] : List Keyword).length + (if ([] : List Keyword).isEmpty then 0 else 1) < 30)) = true := by rfl)
    (hline : (apos.endLine == pos.line) = true := by rfl) : PE X (.Call (.Attribute a "index" apos) [b] [] pos) (SE X.K F (fIndex f g)) := by
  refine pe_of fun S δ d δ' σ H Q R hf q => ⟨_, pe_bm PySem.F.plainAttrs_list PySem.F.slot_list_index PySem.F.type_list_index (mt_indexD (hu65 hr)) ha (pa_cons hb pa_nil he) (hbase := hbase) (hfew := hfew) (hline := hline) (hs := he), ?_⟩
  unfold fIndex at hf
  split at hf
  · rename_i xs δ1 h1
    split at hf
    · rename_i y δ2 h2
      unfold uIndex at hf
      split at hf
      · rename_i hc
        cases hj : xs.findIdx? fun z => PyData.eqv z y with
        | none => rw [hj] at hf; cases hf
        | some j =>
          rw [hj] at hf
          cases hf
          obtain ⟨hlt, hz, hm⟩ := List.findIdx?_eq_some_iff_getElem.mp hj
          refine ⟨S, δ, _, δ1, R, h1, fun v S1 H1 s1 R1 d1 => ?_⟩
          obtain ⟨a0, us, rfl, e1, e2⟩ := dq_list d1
          refine ⟨.inl ⟨rfl, _, SqL.of (R1.sub _ _ e1)⟩, S1, δ1, y, _, R1, h2, fun w S2 H2 s2 R2 d2 => ?_⟩
          refine ⟨a0, w, y, xs, j, xs[j], rfl, rfl, dq_dp (dq_ext R2.sub (dq_ext s2.s (.lst e1 e2))) (SeqAt.canLay_of_shaped hc.1), dq_dp (dq_ext R2.sub d2) (SeqAt.canLay_of_shaped hc.2), hc.1, hc.2, List.getElem?_eq_getElem hlt, hz, fun m z hm' hz' => ?_, q _ S2 H2 (s1.trans s2) R2 (.int _)⟩
          obtain ⟨hl, rfl⟩ := List.getElem?_eq_some_iff.mp hz'
          simpa using hm m hm'
      · cases hf
    · cases hf
  · cases hf
/-! ### max and min of two -/
omit [TabSet] in
def u2 (o : Int → Int → Int) (f g : M) : M := fOp (fun x y => match x, y with
  | .int i, .int j => some (.int (o i j))
  | _, _ => none) f g
omit [TabSet] in
def oMax (i j : Int) : Int := if j > i then j else i
omit [TabSet] in
def oMin (i j : Int) : Int := if j < i then j else i
theorem e_u2 {o : Int → Int → Int} {nm : Str} {id : String} {pp : Pos} (hc2 : CallR X (.builtin id) (fun xs H Q => ∃ i j, xs = [.int i, .int j] ∧ Q (.int (o i j)) H)) (hg : Gl X nm) (hm : X.mg nm = none) (hv : bootBuiltins nm = some (.builtin id)) (hnn : nm ≠ Str.ofString "__name__") (hnd : (nm == ("__debug__" : Str)) = false) (ha : PE X a (SE X.K F f)) (hb : PE X b (SE X.K F g))
    (hs : starEach [a, b] X.env = (false, eval a X.env) :: starEach [b] X.env) (hpl : (backTo pos (starEach [b] X.env)).any (·.1) = false) (nb : starEach [b] X.env = (false, eval b X.env) :: starEach [] X.env) :
    PE X (.Call (.Name nm pp) [a, b] [] pos) (SE X.K F (u2 o f g)) := by
  refine pe_of fun S δ d δ' σ H Q R hf q => ⟨_, pe_callB hc2 hg hm hv (pa_cons ha (pa_cons hb pa_nil nb) hs) hnn hnd hs hpl, ?_⟩
  obtain ⟨x, δ1, y, h1, h2, h3⟩ := fOp_of hf
  refine ⟨S, δ, x, δ1, R, h1, fun v S1 H1 s1 R1 d1 => ⟨S1, δ1, y, δ', R1, h2, fun w S2 H2 s2 R2 d2 => ?_⟩⟩
  cases x <;> cases y <;> simp only at h3 <;> first | cases h3 | skip
  rw [dq_int d1, dq_int d2]
  exact ⟨_, _, rfl, q _ S2 H2 (s1.trans s2) R2 (.int _)⟩
theorem e_max2 {pp : Pos} (hc : X.calm = true) (hg : Gl X "max" := by rfl) (hm : X.mg "max" = none) (ha : PE X a (SE X.K F f)) (hb : PE X b (SE X.K F g)) (hs : starEach [a, b] X.env = (false, eval a X.env) :: starEach [b] X.env := by rfl)
    (hpl : (backTo pos (starEach [b] X.env)).any (·.1) = false := by rfl) (nb : starEach [b] X.env = (false, eval b X.env) :: starEach [] X.env := by rfl) : PE X (.Call (.Name "max" pp) [a, b] [] pos) (SE X.K F (u2 oMax f g)) :=
  e_u2 (call_max2 hc) hg hm rfl (by decide) (by decide) ha hb hs hpl nb
theorem e_min2 {pp : Pos} (hc : X.calm = true) (hg : Gl X "min" := by rfl) (hm : X.mg "min" = none) (ha : PE X a (SE X.K F f)) (hb : PE X b (SE X.K F g)) (hs : starEach [a, b] X.env = (false, eval a X.env) :: starEach [b] X.env := by rfl)
    (hpl : (backTo pos (starEach [b] X.env)).any (·.1) = false := by rfl) (nb : starEach [b] X.env = (false, eval b X.env) :: starEach [] X.env := by rfl) : PE X (.Call (.Name "min" pp) [a, b] [] pos) (SE X.K F (u2 oMin f g)) :=
  e_u2 (call_min2 hc) hg hm rfl (by decide) (by decide) ha hb hs hpl nb
/-! ### range(i, j, -1) -/
omit [TabSet] in
def rgdD (i j : Int) : List D := (List.range (i - j).toNat).map fun k => .int (i - (k : Nat))
omit [TabSet] in
def lRgd (f g : M) : MA := fun δ => match f δ with
  | some (.int i, δ1) => match g δ1 with
    | some (.int j, δ2) => if rgOk j i = true then some (rgdD i j, δ2) else none
    | _ => none
  | _ => none
theorem i_rgd {pp p1 p2 : Pos} {kk : Nat} (hg : Gl X "range" := by rfl) (hm : X.mg "range" = none) (ha : PE X a (SE X.K F f)) (hb : PE X b (SE X.K F g))
    (hs : starEach [a, b, .UnaryOp .USub (.Constant (.int 1) kk p1) p2] X.env = (false, eval a X.env) :: starEach [b, .UnaryOp .USub (.Constant (.int 1) kk p1) p2] X.env := by rfl)
    (hs2 : starEach [b, .UnaryOp .USub (.Constant (.int 1) kk p1) p2] X.env = (false, eval b X.env) :: starEach [.UnaryOp .USub (.Constant (.int 1) kk p1) p2] X.env := by rfl)
    (hs3 : starEach [.UnaryOp .USub (.Constant (.int 1) kk p1) p2] X.env = (false, eval (.UnaryOp .USub (.Constant (.int 1) kk p1) p2) X.env) :: starEach [] X.env := by rfl)
    (hpl : (backTo pos (starEach [b, .UnaryOp .USub (.Constant (.int 1) kk p1) p2] X.env)).any (·.1) = false := by rfl) :
    PI X tg (.Call (.Name "range" pp) [a, b, .UnaryOp .USub (.Constant (.int 1) kk p1) p2] [] pos) (SI X.K F (lRgd f g)) := by
  refine pi_of fun S δ ds δ' σ H R Rs hf q => ⟨_, pi_range3 hg hm (pa_cons ha (pa_cons hb (pa_cons (e_neg (F := F) e_int) pa_nil hs3) hs2) hs) hs hpl, ?_⟩
  unfold lRgd at hf
  split at hf
  · rename_i i δ1 h1
    split at hf
    · rename_i j δ2 h2
      split at hf
      · rename_i hc
        cases hf
        have ok := hc
        unfold rgOk at ok
        simp only [Bool.and_eq_true, decide_eq_true_eq] at ok
        refine ⟨S, δ, _, δ1, Rs, h1, fun v S1 H1 s1 R1 d1 => ⟨S1, δ1, _, _, R1, h2, fun w S2 H2 s2 R2 d2 => ⟨S2, _, .int (-1), _, R2, rfl, fun u S3 H3 s3 R3 d3 => ?_⟩⟩⟩
        rw [dq_int d1, dq_int d2, dq_int d3]
        refine ⟨i, j, -1, (i - j).toNat, rfl, RgC.neg (by omega) (by omega) (by omega) (by omega), q _ S3 H3 ((s1.trans s2).trans s3) R3 ⟨fun n S4 H4 x1 x2 hi => ?_, fun n S4 H4 x H5 d x1 x2 hy hd => ?_, fun n S4 H4 x1 x2 hi => ?_⟩⟩
        · show n < (i - j).toNat
          simpa [rgdD] using hi
        · obtain ⟨rfl, rfl⟩ := hy
          unfold rgdD at hd
          rw [List.getElem?_map] at hd
          cases hr : (List.range (i - j).toNat)[n]? with
          | none => rw [hr] at hd; cases hd
          | some m =>
            rw [hr] at hd
            cases hd
            obtain ⟨hl, rfl⟩ := List.getElem?_eq_some_iff.mp hr
            refine ⟨S4, Grow.refl x2, ?_⟩
            rw [List.getElem_range, show i + (n : Nat) * (-1) = i - (n : Nat) by omega]
            exact .int _
        · show (i - j).toNat ≤ n
          simpa [rgdD] using hi
      · cases hf
    · cases hf
  · cases hf
end
end Pd

/-! Wp of what Pd18 to Pd20 bring. -/
namespace Pd
open PySem PySem.Spec PyProof.Rows L2
section
variable {f g h : M} {tf tg : MT} {fa ga : MA} {fr : MR} {δ : DE} {pf pg : PF} {pl ph : PO'} {fo : MO'} {fs : MS}
variable {Q : D × DE → Prop} {QT : Bool × DE → Prop} {QA : List D × DE → Prop} {QD : D → Prop} {QO : Ob × DE → Prop} {QS : Out → Prop} {QB : Bool → Prop}
theorem slot3 (o : Option Slot) : (∃ ob, o = some (.ow ob)) ∨ ∀ ob, o ≠ some (.ow ob) := by
  rcases o with _ | (_ | _ | ob | _)
  · exact .inr fun _ z => by cases z
  · exact .inr fun _ z => by cases z
  · exact .inr fun _ z => by cases z
  · exact .inl ⟨ob, rfl⟩
  · exact .inr fun _ z => by cases z
@[simp] theorem obD_l {xs : List D} : obD (.lst xs) = .list xs := rfl
@[simp] theorem obD_d {kvs : List (D × D)} : obD (.dct kvs) = .dict kvs := rfl
@[simp] theorem wp_fCmpR {i : Nat} {o : D → D → Option Bool} : Wp (fCmpR i o g δ) Q ↔ Wp (g δ) fun p => ∃ ob, p.2[i]? = some (.ow ob) ∧ Wp (o p.1 (obD ob)) fun k => Q (.bool k, p.2) := by
  unfold fCmpR
  rcases g δ with _ | ⟨x, δ1⟩ <;> simp
  rcases δ1[i]? with _ | s
  · simp
  rcases s with _ | d | ob | ns <;> simp
  rcases o x (obD ob) with _ | k <;> simp
@[simp] theorem wp_fCmpRT {i : Nat} {o : D → D → Option Bool} : Wp (fCmpRT i o g δ) QT ↔ Wp (g δ) fun p => ∃ ob, p.2[i]? = some (.ow ob) ∧ Wp (o p.1 (obD ob)) fun k => QT (k, p.2) := by
  unfold fCmpRT fCmpR
  rcases g δ with _ | ⟨x, δ1⟩ <;> simp
  rcases h1 : δ1[i]? with _ | s
  · simp [h1]
  rcases s with _ | d | ob | ns <;> simp [h1]
  rcases h2 : o x (obD ob) with _ | k <;> simp
@[simp] theorem wp_fIxO {i : Nat} : Wp (fIxO i g δ) Q ↔ isOw δ i = true ∧ Wp (g δ) fun p => ∃ ob, p.2[i]? = some (.ow ob) ∧ Wp (ixE (obD ob) p.1) fun z => Q (z, p.2) := by
  unfold fIxO
  by_cases hh : isOw δ i = true <;> simp [hh]
  rcases g δ with _ | ⟨x, δ1⟩ <;> simp
  rcases δ1[i]? with _ | s
  · simp
  rcases s with _ | d | ob | ns <;> simp
@[simp] theorem wp_sPutO {i : Nat} : Wp (sPutO i g f δ) QS ↔ isOw δ i = true ∧ Wp (f δ) fun p => Wp (g p.2) fun q => ∃ kvs, q.2[i]? = some (.ow (.dct kvs)) ∧ Wp (dPut kvs q.1 p.1) fun kvs' => QS (.nx (q.2.set i (.ow (.dct kvs')))) := by
  unfold sPutO
  by_cases hh : isOw δ i = true <;> simp [hh]
  rcases f δ with _ | ⟨x, δ1⟩ <;> simp
  rcases g δ1 with _ | ⟨y, δ2⟩ <;> simp
  rcases δ2[i]? with _ | s
  · simp
  rcases s with _ | d | (xs | kvs) | ns <;> simp
  rcases dPut kvs y x with _ | k <;> simp
@[simp] theorem wp_oNew {kind : DE → Bool} : Wp (oNew kind δ) QO ↔ QO (.dct (if kind δ = true then tD [] else []), δ) := by simp [oNew]
@[simp] theorem wp_sSetB {i : Nat} : Wp (sSetB i fo δ) QS ↔ Wp (fo δ) fun p => free0 i p.2 = true ∧ QS (.nx (p.2.set i (.ow p.1))) := by
  unfold sSetB
  rcases fo δ with _ | ⟨x, δ1⟩ <;> simp
@[simp] theorem wp_oDisp1T : Wp (oDisp1T f g δ) QO ↔ Wp (f δ) fun p => Wp (g p.2) fun q => Wp (keysOf p.1) fun ks => QO (.dct (tD [(ks, q.1)]), q.2) := by
  unfold oDisp1T
  rcases f δ with _ | ⟨x, δ1⟩ <;> simp
  rcases g δ1 with _ | ⟨y, δ2⟩ <;> simp
  rcases keysOf x with _ | k <;> simp
/-- a dict -/
def dictK (Q : List (D × D) → Prop) : D → Prop
  | .dict kvs => Q kvs
  | _ => False
@[simp] theorem dictK_d {Q : List (D × D) → Prop} {kvs : List (D × D)} : dictK Q (.dict kvs) ↔ Q kvs := Iff.rfl
@[simp] theorem wp_fGet1 : Wp (fGet1 f g δ) Q ↔ Wp (f δ) fun p => dictK (fun kvs => Wp (g p.2) fun q => Wp (dGet kvs q.1) fun r => Q (r.getD .none, q.2)) p.1 := by
  unfold fGet1
  rcases f δ with _ | ⟨x, δ1⟩
  · simp
  cases x <;> simp [dictK]
  rcases g δ1 with _ | ⟨y, δ2⟩ <;> simp
@[simp] theorem wp_fGet2 : Wp (fGet2 f g h δ) Q ↔ Wp (f δ) fun p => dictK (fun kvs => Wp (g p.2) fun q => Wp (h q.2) fun z => Wp (dGet kvs q.1) fun r => Q (r.getD z.1, z.2)) p.1 := by
  unfold fGet2
  rcases f δ with _ | ⟨x, δ1⟩
  · simp
  cases x <;> simp [dictK]
  rcases g δ1 with _ | ⟨y, δ2⟩ <;> simp
  rcases h δ2 with _ | ⟨z, δ3⟩ <;> simp
@[simp] theorem wp_sRetB {i : Nat} : Wp (sRetB i δ) QS ↔ ∃ ob, δ[i]? = some (.ow ob) ∧ i ≠ 0 ∧ QS (.rt (obD ob) (δ.set i (.sh (obD ob)))) := by
  unfold sRetB
  rcases hx : δ[i]? with _ | s
  · simp
  rcases s with _ | d | ob | ns <;> simp
@[simp] theorem wp_sExt {i : Nat} : Wp (sExt i f δ) QS ↔ isLst δ i = true ∧ Wp (f δ) fun p => ∃ ds, p.1 = .list ds ∧ ∃ xs, p.2[i]? = some (.ow (.lst xs)) ∧ xs.length + ds.length ≤ 100000 ∧ QS (.nx (p.2.set i (.ow (.lst (xs ++ ds))))) := by
  unfold sExt
  by_cases hh : isLst δ i = true <;> simp [hh]
  rcases f δ with _ | ⟨x, δ1⟩
  · simp
  cases x <;> simp
  rcases δ1[i]? with _ | s
  · simp
  rcases s with _ | d | (xs | kvs) | ns <;> simp
@[simp] theorem wp_fIndex : Wp (fIndex f g δ) Q ↔ Wp (f δ) fun p => ∃ xs, p.1 = .list xs ∧ Wp (g p.2) fun q => Wp (uIndex xs q.1) fun z => Q (z, q.2) := by
  unfold fIndex
  rcases f δ with _ | ⟨x, δ1⟩
  · simp
  cases x <;> simp
  rcases g δ1 with _ | ⟨y, δ2⟩ <;> simp
@[simp] theorem wp_u2 {o : Int → Int → Int} : Wp (u2 o f g δ) Q ↔ Wp (f δ) fun p => Wp (g p.2) fun q => intK (fun i => intK (fun j => Q (.int (o i j), q.2)) q.1) p.1 := by
  unfold u2
  simp only [wp_fOp]
  constructor
  · intro h
    exact h.mono fun p hp => hp.mono fun q hq => by
      rcases p with ⟨x, δ1⟩
      rcases q with ⟨y, δ2⟩
      cases x <;> cases y <;> simp [intK] at hq ⊢ <;> exact hq
  · intro h
    exact h.mono fun p hp => hp.mono fun q hq => by
      rcases p with ⟨x, δ1⟩
      rcases q with ⟨y, δ2⟩
      cases x <;> cases y <;> simp [intK] at hq ⊢ <;> exact hq
@[simp] theorem wp_lRgd : Wp (lRgd f g δ) QA ↔ Wp (f δ) fun p => ∃ i, p.1 = .int i ∧ Wp (g p.2) fun q => ∃ j, q.1 = .int j ∧ rgOk j i = true ∧ QA (rgdD i j, q.2) := by
  unfold lRgd
  rcases f δ with _ | ⟨x, δ1⟩
  · simp
  cases x <;> simp
  rcases g δ1 with _ | ⟨y, δ2⟩
  · simp
  cases y <;> simp
@[simp] theorem wp_ixE_l {xs : List D} {k : D} : Wp (ixE (.list xs) k) QD ↔ Wp (ixD (.list xs) k) QD := Iff.rfl
@[simp] theorem wp_ixE_t {xs : List D} {k : D} : Wp (ixE (.tuple xs) k) QD ↔ Wp (ixD (.tuple xs) k) QD := Iff.rfl
@[simp] theorem wp_ixE_tI {ns : List Int} {k : D} : Wp (ixE (tI ns) k) QD ↔ Wp (ixD (tI ns) k) QD := Iff.rfl
@[simp] theorem wp_ixE_d {kvs : List (D × D)} {k : D} : Wp (ixE (.dict kvs) k) QD ↔ Wp (dGet kvs k) fun r => Wp r QD := by
  simp only [ixE]
  rcases dGet kvs k with _ | r <;> simp
@[simp] theorem wp_cInE_d {kvs : List (D × D)} {k : D} : Wp (cInE k (.dict kvs)) QB ↔ Wp (dGet kvs k) fun r => QB r.isSome := by simp [cInE]
@[simp] theorem wp_cInE_l {xs : List D} {k : D} : Wp (cInE k (.list xs)) QB ↔ Wp (cIn k (.list xs)) QB := Iff.rfl
@[simp] theorem wp_cInE_t {xs : List D} {k : D} : Wp (cInE k (.tuple xs)) QB ↔ Wp (cIn k (.tuple xs)) QB := Iff.rfl
@[simp] theorem wp_cNotInE {d e : D} : Wp (cNotInE d e) QB ↔ Wp (cInE d e) fun k => QB (!k) := by simp [cNotInE]
end
end Pd

/-! Dicts by whole numbers, and by tuples of them. -/
namespace Pd
open PySem PySem.Spec PyProof.Rows L2
section
variable {α β : Type} [DecidableEq α]
def valT (kk : List (α × β)) (k : α) : Option β := (kk.find? fun p => decide (p.1 = k)).map (·.2)
def putT (kk : List (α × β)) (k : α) (v : β) : List (α × β) := if (kk.any fun p => decide (p.1 = k)) = true then kk.map fun p => if p.1 = k then (p.1, v) else p else kk ++ [(k, v)]
@[simp] theorem valT_nil {k : α} : valT ([] : List (α × β)) k = none := rfl
theorem valT_cons {p : α × β} {r : List (α × β)} {k : α} : valT (p :: r) k = if p.1 = k then some p.2 else valT r k := by
  by_cases e : p.1 = k <;> simp [valT, List.find?_cons, e]
theorem valT_any (k : α) : ∀ kk : List (α × β), (kk.any fun p => decide (p.1 = k)) = (valT kk k).isSome
  | [] => rfl
  | p :: r => by
    rw [List.any_cons, valT_cons, valT_any k r]
    by_cases e : p.1 = k <;> simp [e]
theorem valT_map (k j : α) (v : β) : ∀ kk : List (α × β), valT (kk.map fun p => if p.1 = k then (p.1, v) else p) j = (valT kk j).map fun x => if j = k then v else x
  | [] => rfl
  | p :: r => by
    rw [List.map_cons, valT_cons, valT_cons, valT_map k j v r]
    by_cases e : p.1 = k
    · rw [if_pos e]
      by_cases e2 : p.1 = j
      · simp only [e2, if_true, Option.map_some]
        rw [if_pos (e2.symm.trans e)]
      · simp only [e2, if_false]
    · rw [if_neg e]
      by_cases e2 : p.1 = j
      · simp only [e2, if_true, Option.map_some]
        rw [if_neg (fun z => e (e2.trans z))]
      · simp only [e2, if_false]
theorem valT_app (k : α) : ∀ (kk ll : List (α × β)), valT (kk ++ ll) k = (valT kk k).or (valT ll k)
  | [], _ => rfl
  | p :: r, ll => by
    rw [List.cons_append, valT_cons, valT_cons, valT_app k r ll]
    by_cases e : p.1 = k <;> simp [e]
theorem valT_put (kk : List (α × β)) (k j : α) (v : β) : valT (putT kk k v) j = if j = k then some v else valT kk j := by
  unfold putT
  rw [valT_any]
  split
  · rename_i h
    rw [valT_map]
    by_cases e : j = k
    · subst e
      obtain ⟨x, hx⟩ := Option.isSome_iff_exists.mp h
      simp [hx]
    · simp [e]
  · rename_i h
    rw [valT_app]
    have hn : valT kk k = none := by simpa using h
    by_cases e : j = k
    · subst e
      simp [hn, valT_cons]
    · simp [e, valT_cons, Ne.symm e]
theorem putT_len (kk : List (α × β)) (k : α) (v : β) : (putT kk k v).length ≤ kk.length + 1 := by
  unfold putT
  split
  · simp
  · simp
theorem putT_new {kk : List (α × β)} {k : α} {v : β} (h : valT kk k = none) : putT kk k v = kk ++ [(k, v)] := by
  unfold putT
  rw [valT_any, h]
  rfl
end
section
variable {α : Type} [DecidableEq α] {en : α → D} (he : ∀ a b, PyData.eqv (en a) (en b) = decide (a = b))
include he
theorem lk_en (k : α) : ∀ kk : List (α × D), lkD (kk.map fun p => (en p.1, p.2)) (en k) = valT kk k
  | [] => rfl
  | p :: r => by
    rw [valT_cons, ← lk_en k r]
    by_cases e : p.1 = k <;> simp [lkD, List.find?_cons, he, e]
theorem put_en (k : α) (v : D) (kk : List (α × D)) : putD (kk.map fun p => (en p.1, p.2)) (en k) v = (putT kk k v).map fun p => (en p.1, p.2) := by
  unfold putD putT
  have h1 : ((kk.map fun p => (en p.1, p.2)).any fun p => PyData.eqv p.1 (en k)) = kk.any fun p => decide (p.1 = k) := by
    rw [List.any_map]
    congr 1
    funext p
    exact he p.1 k
  rw [h1]
  split
  · rw [List.map_map, List.map_map]
    congr 1
    funext p
    by_cases e : p.1 = k <;> simp [he, e]
  · simp
end
/-- a dict by whole numbers; by tuples of them -/
def dI (kk : List (Int × D)) : List (D × D) := kk.map fun p => (.int p.1, p.2)
def dR (kk : List (List Int × D)) : List (D × D) := (.none, .none) :: kk.map fun p => (tI p.1, p.2)
section
variable {kk : List (Int × D)} {rr : List (List Int × D)} {i : Int} {ns : List Int} {v : D} {Q : Option D → Prop} {QP : List (D × D) → Prop}
theorem isTk_dI : isTk (dI kk) = false := by cases kk <;> rfl
theorem keysOf_tI : keysOf (tI ns) = some (ns.map .inl) := by
  have : ∀ ns : List Int, keysL (ns.map PyData.int) = some (ns.map .inl) := by
    intro ns
    induction ns with
    | nil => rfl
    | cons n r ih => simp [keysL, keyOf, ih]
  exact this ns
@[simp] theorem wp_keysOf_tI {QK : List Key → Prop} : Wp (keysOf (tI ns)) QK ↔ QK (ns.map .inl) := by rw [keysOf_tI]; simp
@[simp] theorem wp_dGet_I : Wp (dGet (dI kk) (.int i)) Q ↔ Q (valT kk i) := by
  have h1 : fits (dI kk) (.int i) = true := by simp [fits, isTk_dI, keyOf]
  have h2 : lkD (dI kk) (.int i) = valT kk i := lk_en (en := PyData.int) (fun _ _ => eqv_ii) i kk
  simp [dGet, h1, h2]
@[simp] theorem wp_dPut_I : Wp (dPut (dI kk) (.int i) v) QP ↔ kk.length ≤ 100000 ∧ QP (dI (putT kk i v)) := by
  have h1 : fits (dI kk) (.int i) = true := by simp [fits, isTk_dI, keyOf]
  have h2 : putD (dI kk) (.int i) v = dI (putT kk i v) := put_en (en := PyData.int) (fun _ _ => eqv_ii) i v kk
  have h3 : (dI kk).length = kk.length := by simp [dI]
  simp [dPut, h1, h2, h3]
theorem lk_dR : lkD (dR rr) (tI ns) = valT rr ns := by
  have h2 : lkD (rr.map fun p => (tI p.1, p.2)) (tI ns) = valT rr ns := lk_en (en := tI) (fun _ _ => eqv_tItI) ns rr
  rw [← h2]
  simp [lkD, dR, List.find?_cons]
theorem put_dR : putD (dR rr) (tI ns) v = dR (putT rr ns v) := by
  have h2 : putD (rr.map fun p => (tI p.1, p.2)) (tI ns) v = (putT rr ns v).map fun p => (tI p.1, p.2) := put_en (en := tI) (fun _ _ => eqv_tItI) ns v rr
  unfold dR
  rw [← h2]
  unfold putD
  simp only [List.any_cons, eqv_ntI, Bool.false_or, List.map_cons, Bool.false_eq_true, if_false]
  split <;> rfl
theorem fits_dR : fits (dR rr) (tI ns) = true := by
  have : isTk (dR rr) = true := rfl
  simp [fits, this, keysOf_tI]
@[simp] theorem wp_dGet_R : Wp (dGet (dR rr) (tI ns)) Q ↔ Q (valT rr ns) := by simp [dGet, fits_dR, lk_dR]
@[simp] theorem wp_dPut_R : Wp (dPut (dR rr) (tI ns) v) QP ↔ rr.length ≤ 99999 ∧ QP (dR (putT rr ns v)) := by
  have h3 : (dR rr).length = rr.length + 1 := by simp [dR]
  simp [dPut, fits_dR, put_dR, h3]
theorem tD_dR (r : List Int) (d : D) : tD [(r.map .inl, d)] = dR [(r, d)] := by
  simp [tD, dR, keysD, tI]
  intro a _
  rfl
theorem tD_nil : tD [] = dR [] := rfl
end
section
variable {α : Type} {Q : D → Prop}
theorem bools_mapT (f : α → Bool) : ∀ xs : List α, boolsD (xs.map fun x => .bool (f x)) = some (xs.map f)
  | [] => rfl
  | x :: r => by
    rw [List.map_cons, List.map_cons]
    simp only [boolsD, bools_mapT f r, Option.map_some]
@[simp] theorem wp_uAll_map {f : α → Bool} {xs : List α} : Wp (uAll (.list (xs.map fun x => .bool (f x)))) Q ↔ Q (.bool (xs.all f)) := by
  simp only [uAll, bools_mapT, Option.map_some, wp_some, List.all_map]
  exact Iff.rfl
@[simp] theorem wp_uAny_map {f : α → Bool} {xs : List α} : Wp (uAny (.list (xs.map fun x => .bool (f x)))) Q ↔ Q (.bool (xs.any f)) := by
  simp only [uAny, bools_mapT, Option.map_some, wp_some, List.any_map]
  exact Iff.rfl
theorem ints_mapT (f : α → Int) : ∀ xs : List α, intsD (xs.map fun x => .int (f x)) = some (xs.map f)
  | [] => rfl
  | x :: r => by
    rw [List.map_cons, List.map_cons]
    simp only [intsD, ints_mapT f r, Option.map_some]
@[simp] theorem wp_uSum_map {f : α → Int} {xs : List α} : Wp (uSum (.list (xs.map fun x => .int (f x)))) Q ↔ Q (.int (xs.map f).sum) := by
  simp only [uSum, ints_mapT, Option.map_some, wp_some]
end
theorem atI_last {α : Type} (xs : List α) : atI xs (-1) = xs.getLast? := by
  unfold atI ixN
  rw [if_neg (by decide)]
  cases xs with
  | nil => rfl
  | cons x r =>
    rw [if_pos (by simp only [List.length_cons]; omega)]
    rw [List.getLast?_eq_getElem?]
    show (x :: r)[(-1 + ((x :: r).length : Int)).toNat]? = _
    congr 1
    simp only [List.length_cons]
    omega
theorem wp_last {α : Type} {xs : List α} {Q : α → Prop} (h : xs ≠ []) (q : ∀ v, xs.getLast? = some v → Q v) : Wp (atI xs (-1)) Q := by
  obtain ⟨v, hv⟩ : ∃ v, xs.getLast? = some v := ⟨_, List.getLast?_eq_some_getLast h⟩
  exact wp_of_eq ((atI_last xs).trans hv) (q v hv)
end Pd

/-! try: call() / except X as e: .. / except Y: return .. , where X never comes. -/
namespace Pd
open PySem PySem.Spec PyProof.Rows L2
open Evl (Ex)
abbrev Sui := Addr → Value → Option Addr → TS
/-- a clause: its class, what it does if it takes the exception (none: it never does) -/
abbrev Cl := Value × Option Sui
/-- what the clauses wish of an exception -/
def wCl (K : PySem.W.Frag) (D : Ends) : List Cl → WX
  | [] => fun _ _ _ _ => False
  | (c, o) :: r => fun cls d σ H => ∃ k, PySem.W.exmOne K cls c = some k ∧ (k = true → ∃ ts, o = some ts ∧ ∀ a, H a = none → ts a cls d D σ H) ∧ (k = false → wCl K D r cls d σ H)
inductive ClOk (X : Cx) : List ExceptHandler → List Cl → Prop
  | nil : ClOk X [] []
  | plain {x : Str} {c : Value} {ts : Sui} {st : Stmt} {sts : List Stmt} {p1 p2 : Pos} {hs : List ExceptHandler} {l : List Cl} (nm : Names X x c)
      (su : ∀ (a : Addr) (oe : Obj) (cls : Value) (d : Option Addr) (pn : List (Addr × Obj)), Zc cls d oe → (∃ vs, oe.data = .fields vs) → PSs (X.suite a ((a, oe) :: pn)) (st :: sts) (ts a cls d)) (r : ClOk X hs l) :
      ClOk X (.ExceptHandler (some (.Name x p1)) none (st :: sts) p2 :: hs) ((c, some ts) :: l)
  | never {x : Str} {c : Value} {en : Option Str} {sts : List Stmt} {p1 p2 : Pos} {hs : List ExceptHandler} {l : List Cl} (nm : Names X x c) (r : ClOk X hs l) :
      ClOk X (.ExceptHandler (some (.Name x p1)) en sts p2 :: hs) ((c, none) :: l)
section
variable {X : Cx}
/-- a clause's class is looked up -/
theorem look_class {Y : Cx} {x : Str} {c : Value} {p1 : Pos} {pins : List (Addr × Obj)} {σ : L2.St} {H : Hp} {t : Shared} (nm : Names Y x c) (I : Inv Y pins σ H t) {Q : Value → Shared → Prop} {E : Value → Shared → Prop} (q : Q c t) :
    wpAny (model Y.prog Y.w) Y.A (eval (.Name x p1) Y.env) Q E t := by
  obtain ⟨hg, hd, h | ⟨h, hv, hn⟩⟩ := nm
  · exact ld_glob I hg h q hd
  · exact ld_blt I hg h hv q hn hd
/-- one clause is asked: what then -/
theorem one_clause {x : Str} {c : Value} {en : Option Str} {sts : List Stmt} {p1 p2 : Pos} {hs : List ExceptHandler} {k : Bool} {pins : List (Addr × Obj)} {σ : L2.St} {H : Hp} {t : Shared} {a : Addr} {oe : Obj} {cls : Value}
    {Q : Flow → Shared → Prop} {E : Value → Shared → Prop}
    (nm : Names X x c) (S : Inv (X.suite a ((a, oe) :: (X.pn ++ pins))) [] σ H t) (Kt : X.K.In t.heap) (ea : t.heap.get? a = some oe) (et : oe.cls = cls) (he : PySem.W.exmOne X.K cls c = some k)
    (yes : k = true → codeAny (model X.prog X.w) (X.A.mark (some (.ref a))) (.handlers (.ref a) [.ExceptHandler none en sts p2] X.env) (fun r s2 => match r with
          | .ok f => (match en with
            | none => Q f s2
            | some n => wpAny (model X.prog X.w) X.A (do bindName X.env n .none; unbindBehindTheSuite X.env n p2) (fun _ s3 => Q f s3) E s2)
          | .error z => cameBackBy (model X.prog X.w) X.A X.env E z s2) t)
    (no : k = false → wpAny (model X.prog X.w) X.A (handleBy (.ref a) X.env hs) Q E t) :
    wpAny (model X.prog X.w) X.A (handleBy (.ref a) X.env (.ExceptHandler (some (.Name x p1)) en sts p2 :: hs)) Q E t := by
  have lt : PySem.W.Looks (model X.prog X.w) t.heap (typeOf (.ref a)) cls := fun A Q E s m q => wpAny_typeOf_ref (m _ _ ea) (by rw [et]; exact q)
  have em := PySem.W.exm_one (M := model X.prog X.w) Kt lt he
  refine wpAny_handleBy_cons (codeAny_handlers_test (look_class (Y := X.suite a ((a, oe) :: (X.pn ++ pins))) nm S (em.here ?_))) nofun
  cases k
  · exact no rfl
  · exact yes rfl
/-- the clauses, one after the other, over an exception that has landed -/
theorem clauses {D : Ends} {pins : List (Addr × Obj)} {σ : L2.St} {H : Hp} {s0 s1 : Shared} {B : Heap} {a : Addr} {cls : Value} {d : Option Addr} (ok : X.Ok) (J : ∀ h', B.StaysIn h' → s1.heap.UpToSlots h' → Inv X pins σ H { s0 with heap := h' })
    (na : H a = none) (nL : a ≠ X.env.locals) (nF : a ∉ X.fs) (up : s1.heap.UpToSlots s0.heap) (fl : HandSPX.FlyingZ B X.stack a (Zc cls d) s0.heap)
    {hs : List ExceptHandler} {l : List Cl} (C : ClOk X hs l) (w : wCl X.K D l cls d σ H) : wpAny (model X.prog X.w) X.A (handleBy (.ref a) X.env hs) (L2.SP X pins D) X.xe s0 := by
  have J0 := J _ fl.1 up
  obtain ⟨oe, vs, eo, zo, vo⟩ := fl.there
  have S0 := J0.suite eo vo na nL nF
  induction C with
  | nil => exact w.elim
  | never nm _ ih =>
    obtain ⟨k, hk, y, n⟩ := w
    refine one_clause nm S0 J0.kIn eo zo.1 hk (fun z => ?_) fun z => ih (n z)
    obtain ⟨_, q, _⟩ := y z
    cases q
  | @plain x c ts st sts p1 p2 hs l nm su _ ih =>
    obtain ⟨k, hk, y, n⟩ := w
    refine one_clause nm S0 J0.kIn eo zo.1 hk (fun z => codeAny_handlers_suite (HandSPX.lands_againZ fl fun h' f' u' => ?_)) fun z => ih (n z)
    obtain ⟨ts', q, run⟩ := y z
    cases q
    have J1 := J h' f'.1 (up.trans u')
    obtain ⟨o1, v1, e1, z1, w1⟩ := f'.there
    refine wpAny_mono ((su a o1 cls d (X.pn ++ pins) z1 ⟨_, w1⟩).run [] _ _ H _ (J1.suite e1 w1 na nL nF) (run _ na)) (fun f t r => ?_) (fun _ _ z => z.elim)
    cases f
    case ret => obtain ⟨u, σ6, H6, S6, q⟩ := r; exact ⟨u, σ6, H6, S6.unsuite ok, q⟩
    all_goals (obtain ⟨σ6, H6, S6, q⟩ := r; exact ⟨σ6, H6, S6.unsuite ok, q⟩)
/-- try: .. / except ..: .. -/
theorem ps_try_cl {body : List Stmt} {h0 : ExceptHandler} {hs : List ExceptHandler} {l : List Cl} {pos : Pos} {tb : WX → TS} (hst : X.stack = X.env :: X.outer) (hf : X.env.frame = some X.env.locals)
    (hb : ∀ (W : WX) (pn : List (Addr × Obj)) (xe : Value → Shared → Prop), Takes (X.tr pn xe) W → PassesOwn (model X.prog X.w) X.A X.env xe → PSs (X.tr pn xe) body (tb W))
    (C : ClOk X (h0 :: hs) l) : PS X (.Try body (h0 :: hs) [] [] pos) (fun D σ H => tb (wCl X.K D l) D σ H) := by
  constructor
  intro pins s σ H D I h
  have ok := I.ok
  have fr : X.A.frames = some (X.env :: X.outer) := ok.frames.trans (congrArg some hst)
  refine wpAny_Try_except (wpAny_mono ((hb (wCl X.K D l) (X.pn ++ pins) (fun e t => wpAny (model X.prog X.w) X.A (noteFrame e X.env) (fun _ t2 => wpAny (model X.prog X.w) X.A (setFlight e none) (fun _ t3 =>
    wpAny (model X.prog X.w) X.A (handleBy e X.env (h0 :: hs)) (L2.SP X pins D) X.xe t3) X.xe t2) X.xe t) (fun u t xx => ?_) PassesOwn.looking).run [] s σ H D (I.toTry _) h) (fun f t r => ?_) fun _ _ z => z)
  · obtain ⟨a, B, sI, p', σ', H', cls, d, rfl, J, nb, up, sky, na, os, ag, w⟩ := xx
    have J0 : Inv X pins σ' H' sI := J.ofTry ok
    refine Sky.land Zc.steady fr hf (by rw [← hst]; exact sky) fun h3 fl up3 => ?_
    obtain ⟨oe, vs, eo, _, vo⟩ := fl.there
    have out : a ∉ frs (X.env :: X.outer) := fun m => by
      obtain ⟨_, o, q, no⟩ := fl.2.2.1.mem m
      rw [eo] at q
      cases q
      exact no _ vo
    refine clauses (s1 := sI) (s0 := { t with heap := h3 }) ok (fun h' st u => J0.landed (s' := { t with heap := h' }) nb st u os ag) na
      (fun z => out (List.mem_filterMap.mpr ⟨X.env, List.mem_cons_self, by rw [hf, z]⟩))
      (fun m => ?_) (up.trans up3) (by rw [hst]; exact fl) C w
    obtain ⟨e, me, q⟩ := List.mem_filterMap.mp m
    exact out (List.mem_filterMap.mpr ⟨e, List.mem_cons_of_mem _ me, q⟩)
  · cases f
    case ret => obtain ⟨v, σ', H', J, q⟩ := r; exact ⟨v, σ', H', J.ofTry ok, q⟩
    case next => obtain ⟨σ', H', J, q⟩ := r; exact wpAny_execs_nil ⟨σ', H', J.ofTry ok, q⟩
    all_goals (obtain ⟨σ', H', J, q⟩ := r; exact ⟨σ', H', J.ofTry ok, q⟩)
end

/-! ### the def that tells, with clauses that never come -/
def wHn (K : PySem.W.Frag) (Q : VK) : List (Value × Option Str) → XK
  | [] => fun _ _ _ => False
  | (c, o) :: r => fun cls d H => ∃ b, PySem.W.exmOne K cls c = some b ∧ (b = true → ∃ w, o = some w ∧ Q (.str w) H) ∧ (b = false → wHn K Q r cls d H)
def TTn (K : PySem.W.Frag) (l : List (Value × Option Str)) (dflt : Str) : (XK → Hp → VK → Prop) → Hp → VK → Prop := fun tl H Q => tl (wHn K Q l) H fun _ H' => Q (.str dflt) H'
def cls_of (l : List (Value × Option Str)) : List Cl := l.map fun p => (p.1, p.2.map tStr)
theorem hn_say {Z : Cx} {x ret : Str} {c : Value} {j : Nat} {np p5 p6 p7 : Pos} {hds : List ExceptHandler} {l : List (Value × Option Str)} (hc : Names Z x c) (r : ClOk Z hds (cls_of l)) :
    ClOk Z (.ExceptHandler (some (.Name x np)) none [.Return (some (.Constant (.str ret) j p5)) p6] p7 :: hds) (cls_of ((c, some ret) :: l)) :=
  .plain hc (fun a oe cls d pn _ _ => pss_one (ps_ret pe_str)) r
theorem hn_not {Z : Cx} {x : Str} {c : Value} {en : Option Str} {np p7 : Pos} {sts : List Stmt} {hds : List ExceptHandler} {l : List (Value × Option Str)} (hc : Names Z x c) (r : ClOk Z hds (cls_of l)) :
    ClOk Z (.ExceptHandler (some (.Name x np)) en sts p7 :: hds) (cls_of ((c, none) :: l)) := .never hc r
theorem cl_hands {K : PySem.W.Frag} {D : Ends} {Q : VK} (hQ : ∀ v H, Q v H → D.rt v H) {σ : L2.St} : ∀ (l : List (Value × Option Str)) (cls : Value) (d : Option Addr) (H : Hp), wHn K Q l cls d H → wCl K D (cls_of l) cls d σ H
  | [], _, _, _, h => h
  | (c, o) :: r, cls, d, H, ⟨b, h1, h2, h3⟩ => ⟨b, h1, fun e => (h2 e).elim fun w z => ⟨tStr w, (by rw [z.1]; rfl), fun _ _ => hQ _ _ z.2⟩, fun e => cl_hands hQ r cls d H (h3 e)⟩
/-- try: a() / except ..: return .. / return dflt -/
theorem told_cl {X : Cx} {Ng : List Str} {x a q dflt : Str} {sg : Scope} {g : Addr} {cdg : Value} {h0 : ExceptHandler} {hds : List ExceptHandler} {l : List (Value × Option Str)} {j : Nat} {p1 p2 p3 p5 p6 p8 : Pos}
    (all : ∀ (s : Shared) (H : Hp), ClOk (cxOf C8.CX0 X.prog X.w X.K X.mg X.base Ng x sg g cdg X.A X.stack s H C8.E0).nox (h0 :: hds) (cls_of l))
    (hs0 : ∀ f : Addr, (L2.start Ng [V.ref f])[0]? = some (some (V.ref f)))
    (hsw : ∀ env : Env, swapsWith (.Call (.Name a p1) [] [] p2) none p3.line env = pure false := by intro _; rfl) :
    LamX.GivesTo X Ng x sg g cdg [.Try [.Expr (.Call (.Name a p1) [] [] p2) p3] (h0 :: hds) [] [] p8, .Return (some (.Constant (.str dflt) j p5)) p6] a q (TTn X.K l dflt) := fun f c' s H Q tl act hc h =>
  ⟨_, pss_cons (ps_try_cl (X := (cxOf C8.CX0 X.prog X.w X.K X.mg X.base Ng x sg g cdg X.A X.stack s H C8.E0).nox)
      (tb := fun W D σ H => ∃ Ech : XK, (∀ cls d σ' H', Ech cls d H' → W cls d σ' H') ∧ σ[0]? = some (some (.ref f)) ∧ H c' = some (LamX.CodeO c' q) ∧ tl Ech H (fun _ H' => D.nx σ H'))
      rfl rfl (fun W pn xe tk _ => ⟨fun pins s' σ H' D I ⟨Ech, hW, h1, h2, h3⟩ => (pss_one (ps_expr (pos := p3) (act W pn xe Ech p1 p2 tk hW) (hsw _))).run pins s' σ H' D I ⟨h1, h2, h3⟩⟩) (all s H)) (pss_one (ps_ret pe_str)),
    wHn X.K Q l, fun cls d σ' H' z => cl_hands (fun _ _ z => z) l cls d H' z, hs0 f, hc, h⟩
def pickN (mt : Str → Str → Option Bool) (c : Str) : List (Str × Option Str) → Option Str
  | [] => none
  | (h, o) :: rest => (mt c h).bind fun b => cond b o (pickN mt c rest)
def fToldN (mt : Str → Str → Option Bool) (hands : List (Str × Option Str)) (dflt : Str) (fr : DE → Option (Res × DE)) : M := fun δ => (fr δ).bind fun p => match p.1 with
  | .ret _ => some (.str dflt, p.2)
  | .exc c _ => (pickN mt c hands).map fun r => (.str r, p.2)
def hvN (mg : Str → Option Value) (hands : List (Str × Option Str)) : List (Value × Option Str) := hands.map fun p => ((mg p.1).getD .none, p.2)
def KnownN (mg : Str → Option Value) : List (Str × Option Str) → Prop
  | [] => True
  | p :: r => (∃ c, mg p.1 = some c) ∧ KnownN mg r
theorem pick_n {K : PySem.W.Frag} {mg : Str → Option Value} {mt : Str → Str → Option Bool} {Q : VK} {c ret : Str} {cv : Value} {dd : Option Addr} {H : Hp} (M0 : MtOk K mg mt) (hc : mg c = some cv) (hq : Q (.str ret) H) :
    ∀ (hands : List (Str × Option Str)), KnownN mg hands → pickN mt c hands = some ret → wHn K Q (hvN mg hands) cv dd H
  | [], _, h => by cases h
  | (h, o) :: r, ⟨z1, z2⟩, e => by
    rw [pickN, Option.bind_eq_some_iff] at e
    obtain ⟨b, e1, e2⟩ := e
    obtain ⟨_, C, k1, k2, k3⟩ := M0.ok _ _ _ e1
    rw [hc] at k1
    cases k1
    refine ⟨b, (by rw [k2]; exact k3), fun z => ?_, fun z => ?_⟩ <;> subst z
    · exact ⟨ret, e2, hq⟩
    · exact pick_n M0 hc hq r z2 e2
variable [TabSet]
theorem e_lamN {X : Cx} {F : Fr} {x a q dflt : Str} {st : Stmt} {c P : Addr} {k : Nat} {Ng : List Str} {params : Arguments} {body : Expr} {scope : Scope} {p lpos pos : Pos} {fr : DE → Option (Res × DE)} {mt : Str → Str → Option Bool} {hands : List (Str × Option Str)}
    (t0 : tabs F.S0 F.H0) (M0 : MtOk X.K X.mg mt) (KN : KnownN X.mg hands) (FA : FunAt X.K X.mg x st [a]) (Sg : FnScope Ng [a] (defScope st))
    (hG : ∀ g cdv, LamX.GivesTo X Ng x (defScope st) g cdv (defBody st) a q (TTn X.K (hvN X.mg hands) dflt)) (LA : LamAt X.base X.mg c P q) (hr : Room (k + 2) X.A)
    (hbody : ∀ (A : Around) (outer : List Env) (s : Shared) (H : Hp) (E : XK) (f c' : Addr), Room k (A.deeper (LamX.lamEnv X scope s.heap.objs.size f c')) → PE (LamX.lamCx X A outer s H E scope f c') body (SR X.K X.mg F E fr))
    (hq : X.env.qual ++ "<lambda>" = q := by rfl) (hcode : X.env.code = .ref c := by rfl) (hg : Gl X x := by rfl) (hNg : Ng[0]? = some a := by rfl) (hva : Vis (defScope st) a := by first | exact Or.inl rfl | exact Or.inr (Or.inl rfl) | exact Or.inr (Or.inr rfl))
    (L : LamX.LamS X.env.scope scope := by exact LamX.lamS_by (by rfl)) (hdef : defaultsOf params X.env = ([], []) := by rfl)
    (hbind : ∀ (q : Str) (cl : List (Str × Addr)) (pm cv ctv : Value), bindArgs (PySem.W.kla_fn "<lambda>" q params body scope cl pm cv ctv) ⟨[], []⟩ = pure [] := by intros; rfl)
    (hdb : (x == ("__debug__" : Str)) = false := by decide) (hd : (a == ("__debug__" : Str)) = false := by decide) (hcd : (a == ("__classdict__" : Str)) = false := by decide) :
    PE X (.Call (.Name x p) [.Lambda params body scope lpos] [] pos) (SE X.K F (fToldN mt hands dflt fr)) := by
  refine pe_of fun S δ d δ' σ H Q R hf qq => ⟨_, pe_told FA hg Sg hNg hva hG hq LA.tb hcode LA.mem LA.uq hr L hdef hbind hbody hdb hd hcd, (R.tb0 t0).1, fun H1 eN t1 dm => ?_⟩
  obtain ⟨R1, s1⟩ := R.tabled t0 eN t1 dm
  rw [fToldN, Option.bind_eq_some_iff] at hf
  obtain ⟨⟨r, δ1⟩, h1, h2⟩ := hf
  cases r with
  | ret d0 =>
    cases h2
    exact ⟨S, δ, _, _, R1, h1, fun v S2 H2 s2 R2 _ => qq _ S2 H2 (s1.trans s2) R2 (.str dflt)⟩
  | exc c0 p0 =>
    obtain ⟨w, h3, h4⟩ := Option.map_eq_some_iff.mp h2
    cases h4
    exact ⟨S, δ, _, _, R1, h1, fun S2 H2 cv dd s2 R2 hc => pick_n M0 hc (qq _ S2 H2 (s1.trans s2) R2 (.str w)) hands KN h3⟩
omit [TabSet] in
/-- the word of an error -/
def toldKN (mt : Str → Str → Option Bool) (hands : List (Str × Option Str)) (dflt : Str) (Q : D × DE → Prop) : Res × DE → Prop
  | (.ret _, δ) => Q (.str dflt, δ)
  | (.exc c _, δ) => Wp (pickN mt c hands) fun r => Q (.str r, δ)
omit [TabSet] in
@[simp] theorem toldKN_r {mt : Str → Str → Option Bool} {hands : List (Str × Option Str)} {dflt : Str} {d : D} {Q : D × DE → Prop} {δ : DE} : toldKN mt hands dflt Q (.ret d, δ) ↔ Q (.str dflt, δ) := Iff.rfl
omit [TabSet] in
@[simp] theorem toldKN_e {mt : Str → Str → Option Bool} {hands : List (Str × Option Str)} {dflt : Str} {c p} {Q : D × DE → Prop} {δ : DE} : toldKN mt hands dflt Q (.exc c p, δ) ↔ Wp (pickN mt c hands) fun r => Q (.str r, δ) := Iff.rfl
omit [TabSet] in
@[simp] theorem wp_fToldN {mt : Str → Str → Option Bool} {hands : List (Str × Option Str)} {dflt : Str} {ff : DE → Option (Res × DE)} {Q : D × DE → Prop} {δ : DE} : Wp (fToldN mt hands dflt ff δ) Q ↔ Wp (ff δ) (toldKN mt hands dflt Q) := by
  unfold fToldN
  rcases ff δ with _ | ⟨r, δ1⟩
  · simp
  cases r <;> simp [toldKN]
end Pd

/-! Every second item of a list. -/
namespace Pd
open PySem PySem.Spec PyProof.Rows L2
def evens {α : Type} : List α → List α
  | a :: _ :: r => a :: evens r
  | l => l
theorem evens_range {α : Type} : ∀ (l : List α), (List.range ((l.length + 1) / 2)).filterMap (fun k => l[2 * k]?) = evens l
  | [] => by simp [evens]
  | [a] => by simp [evens]
  | a :: b :: r => by
    have e : ((a :: b :: r).length + 1) / 2 = (r.length + 1) / 2 + 1 := by simp only [List.length_cons]; omega
    rw [e, List.range_succ_eq_map, List.filterMap_cons, List.filterMap_map]
    show a :: _ = a :: evens r
    rw [← evens_range r]
    congr 1
theorem evens_pick (xs : Array Value) : slicePick xs none none (some 2) = (evens xs.toList).toArray := by
  unfold slicePick
  congr 1
  have e1 : sliceRange (sliceBounds none none (some 2) xs.size).1 (sliceBounds none none (some 2) xs.size).2.1 (sliceBounds none none (some 2) xs.size).2.2 = (List.range ((xs.size + 1) / 2)).map fun k => 2 * k := by
    show sliceRange 0 (xs.size : Int) 2 = _
    have c : (if (2 : Int) > 0 then (if (0 : Int) < (xs.size : Int) then ((xs.size : Int) - 0 + 2 - 1) / 2 else 0) else (if (0 : Int) > (xs.size : Int) then (0 - (xs.size : Int) - 2 - 1) / (-2) else 0)).toNat = (xs.size + 1) / 2 := by
      rw [if_pos (by decide)]
      split <;> omega
    unfold sliceRange
    dsimp only
    rw [c]
    refine List.map_congr_left fun k _ => ?_
    omega
  rw [e1, List.filterMap_map, ← evens_range, Array.length_toList]
  exact congrArg (fun g => List.filterMap g (List.range ((xs.size + 1) / 2))) (funext fun k => (Array.getElem?_toList ..).symm)
theorem vals_evens : ∀ {vs : List V} {us : List Value}, Vals vs us → Vals (evens vs) (evens us)
  | _, _, .nil => .nil
  | _, _, .cons a .nil => .cons a .nil
  | _, _, .cons a (.cons _ t) => .cons a (vals_evens t)
theorem dqa_evens {H : Hp} : ∀ {vs : List V} {ds : List D}, DqAll H vs ds → DqAll H (evens vs) (evens ds)
  | _, _, .nil => .nil
  | _, _, .cons a .nil => .cons a .nil
  | _, _, .cons a (.cons _ t) => .cons a (dqa_evens t)
theorem evens_len {α : Type} : ∀ (l : List α), (evens l).length ≤ l.length
  | [] => Nat.le_refl _
  | [a] => Nat.le_refl _
  | a :: b :: r => by have := evens_len r; simp only [evens, List.length_cons]; omega
section
variable {X : Cx} {F : Fr} {e : Expr} {f : M}
theorem pe_evL {te : TE} {k : Nat} {p1 p3 pos : Pos} (he : PE X e te) : PE X (.Subscript e (.Slice none none (some (.Constant (.int 2) k p1)) p3) pos)
    (fun σ H Q => te σ H fun x H1 => ∃ a xs, x = .ref a ∧ SqL X.K H1 a xs ∧ ∀ p, H1 p = none → Q (.ref p) (upd H1 p (.lst (evens xs)))) := by
  constructor
  intro pins s σ H Q I h
  refine Subscript_ (thn (he.run pins s σ H _ I h) fun v s1 ⟨x, H1, I1, r1, a, xs, ex, hx, q⟩ => ?_)
  subst ex
  cases r1
  have st : PO X (some (.Constant (.int 2) k p1)) (tPart (tC (.int 2))) := po_some pe_int
  refine wpAny_Slice (thn (po_none.run pins s1 σ H1 (fun o H2 => o = none ∧ H2 = H1) I1 ⟨rfl, rfl⟩) fun vl s2 ⟨l, H2, I2, pl, el, e2⟩ => ?_)
  subst el e2
  refine thn (po_none.run pins s2 σ H2 (fun o H3 => o = none ∧ H3 = H2) I2 ⟨rfl, rfl⟩) fun vu s3 ⟨u, H3, I3, pu, eu, e3⟩ => ?_
  subst eu e3
  refine thn (st.run pins s3 σ H3 (fun o H4 => o = some 2 ∧ H4 = H3) I3 ⟨2, rfl, rfl, rfl⟩) fun vs s4 ⟨o, H4, I4, ps, eo, e4⟩ => ?_
  subst eo e4
  have I5 : Inv X pins σ H4 { s4 with heap := s4.heap.push { cls := .type "slice", data := .fields #[vl, vu, vs] } } := I4.kept (t' := s4.toks) fun b ob q => Heap.get?_push_of_some _ q
  obtain ⟨its, r, ht, hz⟩ := I5.list hx
  have len := r.length
  show wpAny (model X.prog X.w) X.A (subscriptTail e (.Slice none none (some (.Constant (.int 2) k p1)) p3) (.ref a) (.ref s4.heap.objs.size)) (EP X pins σ Q) X.xe { s4 with heap := s4.heap.push { cls := .type "slice", data := .fields #[vl, vu, vs] } }
  refine tail_any (ops := [.ref a, .ref s4.heap.objs.size]) ht.isList.typeIs (PySem.slot_list_getitem.lookup) (wpAny_getItem_list_slice ht.isList (Heap.IsSliceOf.new _ vl vu vs) pl pu ps (by decide) ?_ (by rw [List.size_toArray]; omega)) (by with_unfolding_all rfl)
  rw [evens_pick]
  exact ⟨.ref _, _, I5.laid (t' := s4.toks) (o := .lst (evens xs)) (fun b ob q => Heap.get?_push_of_some _ q) (Nat.le_refl _) ⟨Nat.le_trans (evens_len _) hz, _, 0, vals_evens r, Heap.get?_push_size _ rfl⟩, rfl, q _ (I5.hok.fresh (Nat.le_refl _))⟩
/-- xs[::2], xs a list -/
def lEven (f : M) : MA := fun δ => match f δ with
  | some (.list ds, δ') => some (evens ds, δ')
  | _ => none
variable [TabSet]
theorem f_even {k : Nat} {p1 p3 pos : Pos} (ha : PE X e (SX X.K F f)) : PE X (.Subscript e (.Slice none none (some (.Constant (.int 2) k p1)) p3) pos) (SF X.K F (lEven f)) := by
  refine pf_of fun S δ ds δ' σ H Q R hf q => ⟨_, pe_evL ha, ?_⟩
  unfold lEven at hf
  split at hf
  · rename_i zs δ1 h1
    cases hf
    refine ⟨S, δ, _, _, R, h1, fun v S1 H1 s1 R1 d1 => ?_⟩
    obtain ⟨p1, v1, rfl, e1, d1⟩ := d1
    refine ⟨p1, v1, rfl, SqL.of e1, fun p hp => ?_⟩
    obtain ⟨R4, s4, n4⟩ := lay_fresh (o := .lst (evens v1)) R1 hp
    refine q p _ S1 _ (s1.trans s4) R4 ?_ n4 upd_same (dqa_evens d1)
    cases hz : H p with
    | none => rfl
    | some o =>
      obtain ⟨o', q'⟩ := s1.dom p o hz
      rw [hp] at q'; cases q'
  · cases hf
omit [TabSet] in
@[simp] theorem wp_lEven {δ : DE} {Q : List D × DE → Prop} : Wp (lEven f δ) Q ↔ Wp (f δ) fun p => ∃ ds, p.1 = .list ds ∧ Q (evens ds, p.2) := by
  unfold lEven
  rcases f δ with _ | ⟨d, δ1⟩
  · simp
  cases d <;> simp
end
/-! ### three names at once -/
section
variable {X : Cx} {F : Fr} {W : WX} {a b c : Expr} {x y z : Str} {px py pz pt pos : Pos} {kt k2 pt2} {fa ff : MA} {g h : M} {i j l : Nat}
def sPar3 (i j l : Nat) (fa : MA) : MS := fun δ => match fa δ with
  | some ([d, d', d2], δ1) => if free0 i δ1 = true ∧ free0 j δ1 = true ∧ free0 l δ1 = true then some (.nx (((δ1.set i (.sh d)).set j (.sh d')).set l (.sh d2))) else none
  | _ => none
def sPar3O (i j l : Nat) (ff : MA) (g h : M) : MS := fun δ => (ff δ).bind fun p => (g p.2).bind fun q => (h q.2).bind fun r =>
  if free0 i r.2 = true ∧ free0 j r.2 = true ∧ free0 l r.2 = true ∧ i ≠ j ∧ i ≠ l then some (.nx (((r.2.set i (.ow p.1)).set j (.sh q.1)).set l (.sh r.1))) else none
variable [TabSet]
theorem s_par3 (hc : X.calm = true) (hN : X.N.Nodup) (ha : PA X [a, b, c] (SA X.K F fa)) (hw : swappedStores [.Tuple [.Name x px, .Name y py, .Name z pz] kt pt] (.Tuple [a, b, c] k2 pt2) X.env = pure (some [x, y, z]))
    (hi : X.N[i]? = some x := by rfl) (hj : X.N[j]? = some y := by rfl) (hl : X.N[l]? = some z := by rfl) (hij : i ≠ j := by decide) (hil : i ≠ l := by decide) (hjl : j ≠ l := by decide)
    (hx : X.env.scope.names.lookup x = some .local := by rfl) (hy : X.env.scope.names.lookup y = some .local := by rfl) (hz : X.env.scope.names.lookup z = some .local := by rfl)
    (hs : swapsWithSole [.Tuple [.Name x px, .Name y py, .Name z pz] kt pt] (.Tuple [a, b, c] k2 pt2) pos.line X.env = pure false := by rfl) :
    PS X (.Assign [.Tuple [.Name x px, .Name y py, .Name z pz] kt pt] (.Tuple [a, b, c] k2 pt2) pos) (SS X.K X.mg F W (sPar3 i j l fa)) := ps_of (ps_par3 hc hN hi hj hl hij hil hjl hx hy hz ha hw hs) fun Z σ H hw => by
  obtain ⟨S, δ, o, R, hf, q⟩ := hw
  unfold sPar3 at hf
  split at hf
  · rename_i d d' d2 δ1 h1
    split at hf
    · rename_i h0
      cases hf
      refine ⟨S, δ, _, _, R, h1, fun vs S1 H1 s1 R1 d1 => ?_⟩
      obtain _ | ⟨e1, _ | ⟨e2, _ | ⟨e3, t⟩⟩⟩ := d1
      cases t
      exact ⟨_, _, _, rfl, q _ S1 H1 s1.s (((R1.set_sh e1 i (free0_of h0.1)).set_sh e2 j (free0_of (free0_set h0.2.1))).set_sh e3 l (free0_of (free0_set (free0_set h0.2.2))))⟩
    · cases hf
  · cases hf
theorem s_par3O (hc : X.calm = true) (hN : X.N.Nodup) (ha : PE X a (SF X.K F ff)) (hb : PE X b (SE X.K F g)) (hcc : PE X c (SE X.K F h)) (hw : swappedStores [.Tuple [.Name x px, .Name y py, .Name z pz] kt pt] (.Tuple [a, b, c] k2 pt2) X.env = pure (some [x, y, z]))
    (hi : X.N[i]? = some x := by rfl) (hj : X.N[j]? = some y := by rfl) (hl : X.N[l]? = some z := by rfl) (hij : i ≠ j := by decide) (hil : i ≠ l := by decide) (hjl : j ≠ l := by decide)
    (he : starEach (a :: [b, c]) X.env = (false, eval a X.env) :: starEach [b, c] X.env := by rfl) (he2 : starEach (b :: [c]) X.env = (false, eval b X.env) :: starEach [c] X.env := by rfl) (he3 : starEach (c :: []) X.env = (false, eval c X.env) :: starEach [] X.env := by rfl)
    (hx : X.env.scope.names.lookup x = some .local := by rfl) (hy : X.env.scope.names.lookup y = some .local := by rfl) (hz : X.env.scope.names.lookup z = some .local := by rfl)
    (hs : swapsWithSole [.Tuple [.Name x px, .Name y py, .Name z pz] kt pt] (.Tuple [a, b, c] k2 pt2) pos.line X.env = pure false := by rfl) :
    PS X (.Assign [.Tuple [.Name x px, .Name y py, .Name z pz] kt pt] (.Tuple [a, b, c] k2 pt2) pos) (SS X.K X.mg F W (sPar3O i j l ff g h)) :=
  ps_of (ps_par3 hc hN hi hj hl hij hil hjl hx hy hz (pa_cons ha (pa_cons hb (pa_cons hcc pa_nil he3) he2) he) hw hs) fun Z σ H hw => by
  obtain ⟨S, δ, o, R, hf, q⟩ := hw
  rw [sPar3O, Option.bind_eq_some_iff] at hf
  obtain ⟨⟨xs, δ1⟩, h1, hf⟩ := hf
  rw [Option.bind_eq_some_iff] at hf
  obtain ⟨⟨d, δ2⟩, h2, hf⟩ := hf
  rw [Option.bind_eq_some_iff] at hf
  obtain ⟨⟨d', δ3⟩, h3, hf⟩ := hf
  dsimp only at h1 h2 h3 hf
  split at hf
  · rename_i h0
    cases hf
    refine ⟨S, δ, _, _, R, h1, fun a0 vs S1 H1 s1 R1 n0 n1 e1 d1 => ⟨S1, δ1, d, δ2, R1, h2, fun v S2 H2 s2 R2 d2 => ⟨S2, δ2, d', δ3, R2, h3, fun u S3 H3 s3 R3 d3 => ?_⟩⟩⟩
    obtain ⟨z1, z2, z3⟩ := own_new R s1 n0
    have e2 : H2 a0 = some (.lst vs) := s2.keep _ _ e1 nt_lst z3
    have n2 : S2 a0 = none := nt_none (s2.out _ _ e1) n1 R2.sub e2 (by intro _ z; cases z)
    have z4 : ¬ Own σ δ2 a0 := fun o => z3 (s2.own o)
    have e3 : H3 a0 = some (.lst vs) := s3.keep _ _ e2 nt_lst z4
    have n3 : S3 a0 = none := nt_none (s3.out _ _ e2) n2 R3.sub e3 (by intro _ z; cases z)
    have z5 : ¬ Own σ δ3 a0 := fun o => z4 (s3.own o)
    have R4 := R3.set_ow n3 (.inl z1) e3 (ob_lst (dqa_ext s3.s (dqa_ext s2.s d1))) z5 i (free0_of h0.1)
    refine ⟨_, _, _, rfl, q _ S3 H3 ((s1.s.trans s2.s).trans s3.s) ((R4.set_sh (dq_ext s3.s d2) j fun e xs' w => ?_).set_sh d3 l fun e xs' w => ?_)⟩
    · subst e
      have h9 := free0_of h0.2.1 rfl
      rw [List.getElem?_set_ne h0.2.2.2.1] at w
      exact h9 _ w
    · subst e
      have h9 := free0_of h0.2.2.1 rfl
      have w2 := (set_ow w).1
      rw [List.getElem?_set_ne h0.2.2.2.2] at w2
      exact h9 _ w2
  · cases hf
omit [TabSet] in
def triK (f : D → D → D → Prop) : List D → Prop
  | [u, v, w] => f u v w
  | _ => False
omit [TabSet] in
@[simp] theorem triK_3 {f : D → D → D → Prop} {u v w : D} : triK f [u, v, w] ↔ f u v w := Iff.rfl
omit [TabSet] in
@[simp] theorem wp_sPar3 {δ : DE} {Q : Out → Prop} : Wp (sPar3 i j l fa δ) Q ↔ Wp (fa δ) fun p => triK (fun d d' d2 => (free0 i p.2 = true ∧ free0 j p.2 = true ∧ free0 l p.2 = true) ∧ Q (.nx (((p.2.set i (.sh d)).set j (.sh d')).set l (.sh d2)))) p.1 := by
  unfold sPar3
  rcases fa δ with _ | ⟨x, δ1⟩
  · simp
  match x with
  | [] => simp [triK]
  | [_] => simp [triK]
  | [_, _] => simp [triK]
  | [u, v, w] => simp [triK]
  | _ :: _ :: _ :: _ :: _ => simp [triK]
omit [TabSet] in
@[simp] theorem wp_sPar3O {δ : DE} {Q : Out → Prop} : Wp (sPar3O i j l ff g h δ) Q ↔ Wp (ff δ) fun p => Wp (g p.2) fun q => Wp (h q.2) fun r => (free0 i r.2 = true ∧ free0 j r.2 = true ∧ free0 l r.2 = true ∧ i ≠ j ∧ i ≠ l) ∧ Q (.nx (((r.2.set i (.ow p.1)).set j (.sh q.1)).set l (.sh r.1))) := by
  unfold sPar3O
  rcases ff δ with _ | ⟨x, δ1⟩ <;> simp
  rcases g δ1 with _ | ⟨y, δ2⟩ <;> simp
  rcases h δ2 with _ | ⟨y, δ2⟩ <;> simp
end
end Pd

/-! An own list or dict goes over to another name. -/
namespace Pd
open PySem PySem.Spec PyProof.Rows L2
variable [TabSet]
section
variable {K : PySem.W.Frag} {F : Fr} {S H : Hp} {σ : L2.St} {δ : DE}
omit [TabSet] in
theorem get_set_no {j k : Nat} {s : Slot} (h : (δ.set j .no)[k]? = some s) : (k = j ∧ s = .no) ∨ (k ≠ j ∧ δ[k]? = some s) := by
  by_cases e : k = j
  · subst e
    rw [List.getElem?_set_self (by have := (List.getElem?_eq_some_iff.mp h).1; rwa [List.length_set] at this)] at h
    exact .inl ⟨rfl, (Option.some.inj h).symm⟩
  · rw [List.getElem?_set_ne (fun z => e z.symm)] at h
    exact .inr ⟨e, h⟩
omit [TabSet] in
theorem ow_set_no {j k : Nat} {xs : Ob} (h : (δ.set j .no)[k]? = some (.ow xs)) : k ≠ j ∧ δ[k]? = some (.ow xs) := by
  rcases get_set_no h with ⟨_, h⟩ | h
  · cases h
  · exact h
theorem RSt.drop (R : RSt K F S H σ δ) (j : Nat) (h0 : j ≠ 0) : RSt K F S H σ (δ.set j .no) where
  sub := R.sub
  base := R.base
  dom0 := R.dom0
  tb0 := R.tb0
  s0 := R.s0
  out := R.out
  iop := R.iop
  len := by rw [List.length_set]; exact R.len
  slot := fun k x s h1 h2 => by
    rcases get_set_no h2 with ⟨_, rfl⟩ | ⟨_, h⟩
    · trivial
    · exact R.slot k x s h1 h
  sep := fun k l a xs ys h1 h2 => R.sep k l a xs ys (ow_set_no h1).2 (ow_set_no h2).2
  pin := fun a h => by
    obtain ⟨h1, xs, h2⟩ := R.pin a h
    exact ⟨h1, xs, by rw [List.getElem?_set_ne h0]; exact h2⟩
theorem RSt.mov (R : RSt K F S H σ δ) {i j : Nat} {xs : Ob} (hd : δ[j]? = some (.ow xs)) (hj : j ≠ 0) (hi : i ≠ 0) : ∃ a, σ[j]? = some (some (.ref a)) ∧ RSt K F S H (σ.set i (some (.ref a))) ((δ.set j .no).set i (.ow xs)) := by
  have hl : j < σ.length := by rw [R.len]; exact (List.getElem?_eq_some_iff.mp hd).1
  obtain ⟨a, o, e, e1, e2, e3, e4⟩ := R.slot j _ _ (List.getElem?_eq_getElem hl) hd
  have ej : σ[j]? = some (some (.ref a)) := by rw [List.getElem?_eq_getElem hl, e]
  refine ⟨a, ej, (R.drop j hj).set_ow e1 e2 e3 e4 ?_ i fun z => absurd z hi⟩
  rintro ⟨k, ys, h1, h2⟩
  obtain ⟨n, h3⟩ := ow_set_no h1
  exact n (R.sep k j a ys xs h3 hd h2 ej)
end
variable {X : Cx} {F : Fr} {W : WX} {x y : Str} {pos : Pos}
omit [TabSet] in
/-- x = y, y an own list or dict, which goes over to x -/
def sMov (i j : Nat) : MS := fun δ => match δ[j]? with
  | some (.ow xs) => if i ≠ 0 ∧ j ≠ 0 then some (.nx ((δ.set j .no).set i (.ow xs))) else none
  | _ => none
theorem s_mov {i j : Nat} {p1 p2 : Pos} (hN : X.N.Nodup) (hi : X.N[i]? = some x := by rfl) (hj : X.N[j]? = some y := by rfl) (hx : Loc X.env.scope x := by first | exact Or.inl rfl | exact Or.inr rfl) (hy : Vis X.env.scope y := by first | exact Or.inl rfl | exact Or.inr (Or.inl rfl) | exact Or.inr (Or.inr rfl)) (hd : (y == ("__debug__" : Str)) = false := by decide) (hcd : (y == ("__classdict__" : Str)) = false := by decide)
    (hs : swapsWith (.Name y p2) (some (.Name x p1)) pos.line X.env = pure false := by rfl) (hf : X.fn x = true ∨ X.env.scope.names.lookup x = some .local := by first | exact .inl rfl | exact .inr rfl) :
    PS X (.Assign [.Name x p1] (.Name y p2) pos) (SS X.K X.mg F W (sMov i j)) := ps_of (ps_set hN hi hx (pe_var hj hy hd hcd) hs hf) fun Z σ H hw => by
  obtain ⟨S, δ, o, R, hf, q⟩ := hw
  unfold sMov at hf
  split at hf
  · rename_i xs e
    split at hf
    · rename_i h0
      cases hf
      obtain ⟨a, e1, R1⟩ := R.mov e h0.2 h0.1
      exact ⟨_, e1, q _ S H (Evl.Ex.refl S) R1⟩
    · cases hf
  · cases hf
omit [TabSet] in
@[simp] theorem wp_sMov {δ : DE} {i j : Nat} {Q : Out → Prop} : Wp (sMov i j δ) Q ↔ ∃ xs, δ[j]? = some (.ow xs) ∧ (i ≠ 0 ∧ j ≠ 0) ∧ Q (.nx ((δ.set j .no).set i (.ow xs))) := by
  unfold sMov
  rcases h : δ[j]? with _ | s
  · simp
  · cases s <;> simp
end Pd

/-! min and max of a list or tuple of ints; lcm; x = y for an own y. -/
namespace Pd
open PySem PySem.Spec PyProof.Rows L2
open Evl (Ex)
def minI : List Int → Int
  | [] => 0
  | a :: r => r.foldl min a
def maxI : List Int → Int
  | [] => 0
  | a :: r => r.foldl max a
theorem reads_ints {h : Heap} : ∀ (ns : List Int) (us : List Value), Vals (ns.map V.int) us → ∃ as, ReadsAll h us (ns.map PyData.int) as
  | [], _, .nil => ⟨_, .nil⟩
  | n :: r, _, .cons e t => by
    obtain ⟨as, q⟩ := reads_ints r _ t
    obtain ⟨k, rfl⟩ := e
    exact ⟨_, .cons (.int n k) q⟩
theorem alike_ints (ns : List Int) : PySem.W.AlikeAll (ns.map PyData.int) := by
  refine ⟨fun x hx y hy => ?_, fun x hx => ?_⟩
  · obtain ⟨i, _, rfl⟩ := List.mem_map.mp hx
    obtain ⟨j, _, rfl⟩ := List.mem_map.mp hy
    rfl
  · obtain ⟨i, _, rfl⟩ := List.mem_map.mp hx
    exact PyData.noConfusion
theorem depth_ints : ∀ ns : List Int, PyData.depthAll (ns.map PyData.int) ≤ 1
  | [] => by decide
  | n :: r => by
    have := depth_ints r
    show max (PyData.depth (.int n)) (PyData.depthAll (r.map PyData.int)) ≤ 1
    have : PyData.depth (.int n) ≤ 1 := by simp [PyData.depth]
    omega
theorem read_int {h : Heap} {v : Value} {i : Int} {bs : List Addr} (r : Reads h v (.int i) bs) : ∃ t, v = .int i t := by
  cases r
  exact ⟨_, rfl⟩
/-- a list or a tuple of ints -/
def SqI (K : PySem.W.Frag) (H : Hp) (a : Addr) (ns : List Int) : Prop := SqL K H a (ns.map V.int) ∨ SqT K H a (ns.map V.int)
def rExt (K : PySem.W.Frag) (o : List Int → Int) : List V → Hp → VK → Prop := fun vs H Q => ∃ (a : Addr) (ns : List Int), vs = [.ref a] ∧ SqI K H a ns ∧ ns ≠ [] ∧ Q (.int (o ns)) H
section
variable {X : Cx}
theorem cr_minI {n : Nat} (hr : Room n X.A) (hc : X.calm = true) : CallR X (.builtin "min") (rExt X.K minI) := by
  rintro pins s σ H vs us Q I r ⟨a, ns, rfl, hs, hne, q⟩
  rw [Vals.ref1 r]
  obtain ⟨m, ms, rfl⟩ := List.exists_cons_of_ne_nil hne
  have hu : X.A.units + 1 + PyData.depthAll ((m :: ms).map PyData.int) < cLine := by
    have := depth_ints (m :: ms)
    have := hr.un
    omega
  have al := alike_ints (m :: ms)
  rcases hs with hs | hs
  · obtain ⟨its, rv, hl, _⟩ := I.list hs
    obtain ⟨as, rd⟩ := reads_ints (h := s.heap) _ _ rv
    refine PySem.W.min_list_data (I.ok.hd hc) hl.isList rd al hu fun i v h' tk bs hv rr hk => ?_
    rw [PySem.W.minD_ints] at rr
    obtain ⟨t, rfl⟩ := read_int rr
    exact ⟨.int _, H, I.kept hk, ⟨t, rfl⟩, q⟩
  · obtain ⟨its, rv, hl, _⟩ := I.tuple hs
    obtain ⟨as, rd⟩ := reads_ints (h := s.heap) _ _ rv
    refine PySem.W.min_tuple_data (I.ok.hd hc) hl rd al hu fun i v h' tk bs hv rr hk => ?_
    rw [PySem.W.minD_ints] at rr
    obtain ⟨t, rfl⟩ := read_int rr
    exact ⟨.int _, H, I.kept hk, ⟨t, rfl⟩, q⟩
theorem cr_maxI {n : Nat} (hr : Room n X.A) (hc : X.calm = true) : CallR X (.builtin "max") (rExt X.K maxI) := by
  rintro pins s σ H vs us Q I r ⟨a, ns, rfl, hs, hne, q⟩
  rw [Vals.ref1 r]
  obtain ⟨m, ms, rfl⟩ := List.exists_cons_of_ne_nil hne
  have hu : X.A.units + 1 + PyData.depthAll ((m :: ms).map PyData.int) < cLine := by
    have := depth_ints (m :: ms)
    have := hr.un
    omega
  have al := alike_ints (m :: ms)
  rcases hs with hs | hs
  · obtain ⟨its, rv, hl, _⟩ := I.list hs
    obtain ⟨as, rd⟩ := reads_ints (h := s.heap) _ _ rv
    refine PySem.W.max_list_data (I.ok.hd hc) hl.isList rd al hu fun i v h' tk bs hv rr hk => ?_
    rw [PySem.W.maxD_ints] at rr
    obtain ⟨t, rfl⟩ := read_int rr
    exact ⟨.int _, H, I.kept hk, ⟨t, rfl⟩, q⟩
  · obtain ⟨its, rv, hl, _⟩ := I.tuple hs
    obtain ⟨as, rd⟩ := reads_ints (h := s.heap) _ _ rv
    refine PySem.W.max_tuple_data (I.ok.hd hc) hl rd al hu fun i v h' tk bs hv rr hk => ?_
    rw [PySem.W.maxD_ints] at rr
    obtain ⟨t, rfl⟩ := read_int rr
    exact ⟨.int _, H, I.kept hk, ⟨t, rfl⟩, q⟩
def rLcm : List V → Hp → VK → Prop := fun vs H Q => ∃ a b : Int, vs = [.int a, .int b] ∧ (small a = true ∧ small b = true) ∧ Q (.int ((Nat.lcm a.natAbs b.natAbs : Nat) : Int)) H
theorem small_64 {a : Int} (h : small a = true) : a.natAbs < 2 ^ 64 := by
  unfold small at h
  simp only [Bool.and_eq_true, decide_eq_true_eq] at h
  omega
theorem cr_lcm : CallR X (.builtin "math.lcm") rLcm := by
  rintro pins s σ H vs us Q I r ⟨a, b, rfl, hs, q⟩
  obtain ⟨t, u, rfl⟩ := Vals.int2 r
  exact PySem.W.mc_lcm (small_64 hs.1) (small_64 hs.2) fun _ => ⟨.int _, H, I.tok _, ⟨_, rfl⟩, q⟩
end
def uMin1 : D → Option D
  | .list ds | .tuple ds => (intsD ds).bind fun ns => if ns = [] then none else some (.int (minI ns))
  | _ => none
def uMax1 : D → Option D
  | .list ds | .tuple ds => (intsD ds).bind fun ns => if ns = [] then none else some (.int (maxI ns))
  | _ => none
def opLcm : D → D → Option D
  | .int a, .int b => if small a = true ∧ small b = true then some (.int ((Nat.lcm a.natAbs b.natAbs : Nat) : Int)) else none
  | _, _ => none
variable {X : Cx} {F : Fr} {W : WX} {x y : Str} {pos : Pos} {a b : Expr} {f g : M}
variable [TabSet]
theorem e_ext1 {o : List Int → Int} {u : D → Option D} {nm : Str} {id : String} {pp : Pos} (hu : ∀ d z, u d = some z → ∃ ds ns, (d = .list ds ∨ d = .tuple ds) ∧ intsD ds = some ns ∧ ns ≠ [] ∧ z = .int (o ns)) (hcr : CallR X (.builtin id) (rExt X.K o)) (hg : Gl X nm) (hm : X.mg nm = none) (hv : bootBuiltins nm = some (.builtin id)) (hnn : nm ≠ Str.ofString "__name__") (hnd : (nm == ("__debug__" : Str)) = false)
    (ha : PE X a (SX X.K F f)) (he : starEach (a :: []) X.env = (false, eval a X.env) :: starEach [] X.env) (hpl : (backTo pos (starEach [] X.env)).any (·.1) = false) :
    PE X (.Call (.Name nm pp) [a] [] pos) (SE X.K F (f1 u f)) := by
  refine e_c1 (bi := .builtin id) (fun r hr => pe_callB hr hg hm hv (pa_cons ha pa_nil he) hnn hnd he hpl) fun d z hz => ?_
  obtain ⟨ds, ns, hd, hn, hne, rfl⟩ := hu d z hz
  refine ⟨_, hcr, fun S H v Q ex d1 q => ?_⟩
  rcases hd with rfl | rfl
  · obtain ⟨p1, v1, rfl, e1, d1⟩ := d1
    exact ⟨p1, ns, rfl, .inl (by rw [← dqa_ints d1 hn]; exact SqL.of e1), hne, q _ S H (Grow.refl ex) (.int _)⟩
  · obtain ⟨p1, v1, rfl, e1, d1⟩ := dq_tup d1
    exact ⟨p1, ns, rfl, .inr (by rw [← dqa_ints d1 hn]; exact SqT.of (ex _ _ e1)), hne, q _ S H (Grow.refl ex) (.int _)⟩
theorem e_min1 {n : Nat} {pp : Pos} (hr : Room n X.A) (hc : X.calm = true) (hm : X.mg "min" = none) (ha : PE X a (SX X.K F f)) (hg : Gl X "min" := by rfl) (he : starEach (a :: []) X.env = (false, eval a X.env) :: starEach [] X.env := by rfl) (hpl : (backTo pos (starEach [] X.env)).any (·.1) = false := by rfl) :
    PE X (.Call (.Name "min" pp) [a] [] pos) (SE X.K F (f1 uMin1 f)) := e_ext1 (fun d z h => by
      cases d <;> simp only [uMin1] at h <;> first | cases h | skip
      all_goals
        obtain ⟨ns, h1, h2⟩ := Option.bind_eq_some_iff.mp h
        split at h2
        · cases h2
        · rename_i hne
          cases h2
          first | exact ⟨_, ns, .inl rfl, h1, hne, rfl⟩ | exact ⟨_, ns, .inr rfl, h1, hne, rfl⟩) (cr_minI hr hc) hg hm rfl (by decide) (by decide) ha he hpl
theorem e_max1 {n : Nat} {pp : Pos} (hr : Room n X.A) (hc : X.calm = true) (hm : X.mg "max" = none) (ha : PE X a (SX X.K F f)) (hg : Gl X "max" := by rfl) (he : starEach (a :: []) X.env = (false, eval a X.env) :: starEach [] X.env := by rfl) (hpl : (backTo pos (starEach [] X.env)).any (·.1) = false := by rfl) :
    PE X (.Call (.Name "max" pp) [a] [] pos) (SE X.K F (f1 uMax1 f)) := e_ext1 (fun d z h => by
      cases d <;> simp only [uMax1] at h <;> first | cases h | skip
      all_goals
        obtain ⟨ns, h1, h2⟩ := Option.bind_eq_some_iff.mp h
        split at h2
        · cases h2
        · rename_i hne
          cases h2
          first | exact ⟨_, ns, .inl rfl, h1, hne, rfl⟩ | exact ⟨_, ns, .inr rfl, h1, hne, rfl⟩) (cr_maxI hr hc) hg hm rfl (by decide) (by decide) ha he hpl
theorem e_lcm {pp : Pos} (hm : X.mg "lcm" = some (.builtin "math.lcm")) (ha : PE X a (SE X.K F f)) (hb : PE X b (SE X.K F g)) (hg : Gl X "lcm" := by rfl) (hs : starEach [a, b] X.env = (false, eval a X.env) :: starEach [b] X.env := by rfl)
    (hpl : (backTo pos (starEach [b] X.env)).any (·.1) = false := by rfl) (nb : starEach [b] X.env = (false, eval b X.env) :: starEach [] X.env := by rfl) : PE X (.Call (.Name "lcm" pp) [a, b] [] pos) (SE X.K F (fOp opLcm f g)) := by
  refine pe_of fun S δ d δ' σ H Q R hf q => ⟨_, pe_callBfun cr_lcm hg hm (pa_cons ha (pa_cons hb pa_nil nb) hs) (by decide) hs hpl, ?_⟩
  obtain ⟨x, δ1, y, h1, h2, h3⟩ := fOp_of hf
  refine ⟨S, δ, x, δ1, R, h1, fun v S1 H1 s1 R1 d1 => ⟨S1, δ1, y, δ', R1, h2, fun w S2 H2 s2 R2 d2 => ?_⟩⟩
  cases x <;> cases y <;> simp only [opLcm] at h3 <;> first | cases h3 | skip
  split at h3
  · rename_i hsm
    cases h3
    rw [dq_int d1, dq_int d2]
    exact ⟨_, _, rfl, hsm, q _ S2 H2 (s1.trans s2) R2 (.int _)⟩
  · cases h3
omit [TabSet] in
/-- x = y, y an own list or dict that from now on stands as it is -/
def sGiv (i j : Nat) : MS := fun δ => match δ[j]? with
  | some (.ow ob) => if i ≠ 0 ∧ j ≠ 0 then some (.nx ((δ.set j (.sh (obD ob))).set i (.sh (obD ob)))) else none
  | _ => none
theorem s_giv {i j : Nat} {p1 p2 : Pos} (hN : X.N.Nodup) (hi : X.N[i]? = some x := by rfl) (hj : X.N[j]? = some y := by rfl) (hx : Loc X.env.scope x := by first | exact Or.inl rfl | exact Or.inr rfl) (hy : Vis X.env.scope y := by first | exact Or.inl rfl | exact Or.inr (Or.inl rfl) | exact Or.inr (Or.inr rfl)) (hd : (y == ("__debug__" : Str)) = false := by decide) (hcd : (y == ("__classdict__" : Str)) = false := by decide)
    (hs : swapsWith (.Name y p2) (some (.Name x p1)) pos.line X.env = pure false := by rfl) (hf : X.fn x = true ∨ X.env.scope.names.lookup x = some .local := by first | exact .inl rfl | exact .inr rfl) :
    PS X (.Assign [.Name x p1] (.Name y p2) pos) (SS X.K X.mg F W (sGiv i j)) := ps_of (ps_set hN hi hx (pe_var hj hy hd hcd) hs hf) fun Z σ H hw => by
  obtain ⟨S, δ, o, R, hf, q⟩ := hw
  unfold sGiv at hf
  split at hf
  · rename_i ob e
    split at hf
    · rename_i h0
      cases hf
      obtain ⟨a, S1, e1, ex, dq, R1⟩ := R.giveO e h0.2
      exact ⟨_, e1, q _ S1 H ex (R1.set_sh dq i fun z => absurd z h0.1)⟩
    · cases hf
  · cases hf
omit [TabSet] in
@[simp] theorem wp_sGiv {δ : DE} {i j : Nat} {Q : Out → Prop} : Wp (sGiv i j δ) Q ↔ ∃ ob, δ[j]? = some (.ow ob) ∧ (i ≠ 0 ∧ j ≠ 0) ∧ Q (.nx ((δ.set j (.sh (obD ob))).set i (.sh (obD ob)))) := by
  unfold sGiv
  rcases h : δ[j]? with _ | s
  · simp
  · cases s <;> simp
omit [TabSet] in
theorem wp_bindN {o : Option (List Int)} {g : List Int → Int} {Q : D → Prop} : Wp (o.bind fun ns => if ns = [] then none else some (PyData.int (g ns))) Q ↔ Wp o fun ns => ns ≠ [] ∧ Q (.int (g ns)) := by
  rcases o with _ | ns
  · simp
  · by_cases e : ns = [] <;> simp [e]
omit [TabSet] in
@[simp] theorem wp_uMin1L {ds : List D} {Q : D → Prop} : Wp (uMin1 (.list ds)) Q ↔ Wp (intsD ds) fun ns => ns ≠ [] ∧ Q (.int (minI ns)) := wp_bindN
omit [TabSet] in
@[simp] theorem wp_uMin1T {ds : List D} {Q : D → Prop} : Wp (uMin1 (.tuple ds)) Q ↔ Wp (intsD ds) fun ns => ns ≠ [] ∧ Q (.int (minI ns)) := wp_bindN
omit [TabSet] in
@[simp] theorem wp_uMax1L {ds : List D} {Q : D → Prop} : Wp (uMax1 (.list ds)) Q ↔ Wp (intsD ds) fun ns => ns ≠ [] ∧ Q (.int (maxI ns)) := wp_bindN
omit [TabSet] in
@[simp] theorem wp_uMax1T {ds : List D} {Q : D → Prop} : Wp (uMax1 (.tuple ds)) Q ↔ Wp (intsD ds) fun ns => ns ≠ [] ∧ Q (.int (maxI ns)) := wp_bindN
omit [TabSet] in
@[simp] theorem wp_opLcm {a b : Int} {Q : D → Prop} : Wp (opLcm (.int a) (.int b)) Q ↔ (small a = true ∧ small b = true) ∧ Q (.int ((Nat.lcm a.natAbs b.natAbs : Nat) : Int)) := by
  unfold opLcm
  by_cases e : small a = true ∧ small b = true
  · simp [e]
  · simp only [e, if_false, wp_none, false_and]
end Pd

/-! sum(xss, ys): lists put together. -/
namespace Pd
open PySem PySem.Spec PyProof.Rows L2
open Evl (Ex)
section
variable {prog : Program} {w : World} {A : Around} {E : Value → Shared → Prop} {s : Shared}
theorem add_ll {l b : Addr} {vs ws : List Value} {Q : Value → Shared → Prop} (hl : s.heap.IsList l vs.toArray) (hb : s.heap.IsList b ws.toArray) (hz : vs.length + ws.length ≤ sizeLine)
    (h : Q (.ref s.heap.objs.size) { s with heap := s.heap.push { cls := .type "list", data := .seq (vs ++ ws).toArray } }) : wpAny (model prog w) A (binaryOp .Add (.ref l) (.ref b)) Q E s := by
  obtain ⟨⟨c1, d1, a1, s1⟩, g1, k1, n1, e1⟩ := hl
  obtain ⟨⟨c2, d2, a2, s2⟩, g2, k2, n2, e2⟩ := hb
  dsimp only at k1 e1 k2 e2
  subst k1 e1 k2 e2
  have e : vs.toArray ++ ws.toArray = (vs ++ ws).toArray := by simp
  refine concat_meets ⟨_, g1, rfl⟩ ⟨_, g2, rfl⟩ noFill_list_add seq_list_add PySem.F.slot_list_add PySem.F.entry_list_add (PySem.F.args_list_add_2 _ _) (list_addW l b vs.toArray ws.toArray n1 n2 d1 d2 s1 s2 (by simpa using hz)) ⟨g1, g2, ?_⟩
  rw [e]
  exact h
theorem args_sum2 (a b : Value) : argsOk "sum" ⟨[a, b], []⟩ := by unfold argsOk; kernel_rfl
/-- the lists put together -/
def putL (xs0 : List Value) (xss : List (List Value)) (i : Nat) : List Value := xs0 ++ (xss.take i).flatten
theorem putL_next {xs0 : List Value} {xss : List (List Value)} {i : Nat} {xs : List Value} (h : xss[i]? = some xs) : putL xs0 xss (i + 1) = putL xs0 xss i ++ xs := by
  have hl := (List.getElem?_eq_some_iff.mp h).1
  unfold putL
  rw [List.take_succ, h]
  simp
theorem putL_len {xs0 : List Value} {xss : List (List Value)} (i : Nat) : (putL xs0 xss i).length ≤ xs0.length + xss.flatten.length := by
  unfold putL
  rw [List.length_append]
  have : (xss.take i).flatten.length ≤ xss.flatten.length := by
    conv => rhs; rw [← List.take_append_drop i xss]
    rw [List.flatten_append, List.length_append]
    omega
  omega
variable {R : Result → Shared → Prop} {I a : Addr} {vs : Array Value} {h0 : Heap} {xs0 : List Value} {xss : List (List Value)}
theorem sum_lists (W : WalksS prog w A.in1 I [I, a] [I] (fun x y => y = x) vs.size (fun i v => vs[i]? = some v) (fun i s' => s'.heap.IsListIter I a i ∧ s'.heap.IsList a vs))
    (hI : ∀ b o, h0.get? b = some o → b ≠ I) (hv : ∀ (i : Nat) v, vs[i]? = some v → ∃ l xs, v = .ref l ∧ h0.IsList l xs.toArray ∧ xss[i]? = some xs) (hz : xs0.length + xss.flatten.length ≤ sizeLine) {S : Addr} (hS0 : h0.get? S = none) (hSI : S ≠ I) (hSa : S ≠ a) :
    ∀ (k i : Nat) (s : Shared) (T : Addr) (c : Nat), vs.size - i = k → i ≤ vs.size → (s.heap.IsListIter I a i ∧ s.heap.IsList a vs) → (∀ b o, h0.get? b = some o → s.heap.get? b = some o) → T ≠ I → T ≠ S → s.heap.IsList T (putL xs0 xss i).toArray → (0 < i → ∃ n, s.heap.get? T = some { cls := .type "list", data := .seq (putL xs0 xss i).toArray n }) → (0 < i → h0.get? T = none) →
      s.heap.get? S = some { cls := .type "list", dict := none, data := .seq #[.ref T] c, slots := #[] } →
      (∀ (s' : Shared) (T' : Addr), (∀ b o, h0.get? b = some o → s'.heap.get? b = some o) → s'.gens = s.gens → s'.drawn = s.drawn → s'.os = s.os → s'.heap.IsList T' (putL xs0 xss vs.size).toArray → (0 < i → True) → (vs.size = 0 → T' = T) → (0 < vs.size → (∃ n, s'.heap.get? T' = some { cls := .type "list", data := .seq (putL xs0 xss vs.size).toArray n }) ∧ h0.get? T' = none) → R (.ok (.ret (.ref T'))) s') →
      codeAny (model prog w) A (.builtin "sum.loop" ⟨[.ref I, .ref S, rawInt 2, rawInt 0], []⟩) R s := by
  intro k
  induction k with
  | zero =>
    intro i s T c hk hi st keep nI nS tl tx th hS hR
    have ei : i = vs.size := by omega
    subst ei
    refine codeAny_builtin F.entry_sum_loop ?_
    rw [Around.under_plainId F.plain_sum_loop _]
    show wpAny _ A.in1 (seqItems? (.ref S) >>= _) _ _ s
    refine wpAny_bind (wpAny_seqItems hS rfl ?_)
    show wpAny _ A.in1 (tryCatch (pyNext (.ref I)) _ >>= _) _ _ s
    refine wpAny_bind (wpAny_tryCatch (W.done s _ _ st fun s' m => ?_))
    have mT : ∀ o, s.heap.get? T = some o → s'.heap.get? T = some o := fun o e => m.heap T o (by simpa using nI) e
    refine wpAny_pure (hR s' T (fun b o e => m.heap b o (by simpa using hI b o e) (keep b o e)) m.gens m.drawn m.os ?_ (fun _ => trivial) (fun _ => rfl) fun hp => ?_)
    · obtain ⟨o, e, r⟩ := tl
      exact ⟨o, mT o e, r⟩
    · obtain ⟨n, e⟩ := tx hp
      exact ⟨⟨n, mT _ e⟩, th hp⟩
  | succ k ih =>
    intro i s T c hk hi st keep nI nS tl tx th hS hR
    have lt : i < vs.size := by omega
    refine codeAny_builtin F.entry_sum_loop ?_
    rw [Around.under_plainId F.plain_sum_loop _]
    show wpAny _ A.in1 (seqItems? (.ref S) >>= _) _ _ s
    refine wpAny_bind (wpAny_seqItems hS rfl ?_)
    show wpAny _ A.in1 (tryCatch (pyNext (.ref I)) _ >>= _) _ _ s
    refine wpAny_bind (wpAny_tryCatch (W.item i s _ _ lt st fun v s1 hP st1 m => ?_))
    obtain ⟨l, xs, rfl, hl, hx⟩ := hv i v hP
    have keep1 : ∀ b o, h0.get? b = some o → s1.heap.get? b = some o := fun b o e => m.heap b o (by simpa using hI b o e) (keep b o e)
    have hl1 : s1.heap.IsList l xs.toArray := by
      obtain ⟨o, e, r⟩ := hl
      exact ⟨o, keep1 l o e, r⟩
    have tl1 : s1.heap.IsList T (putL xs0 xss i).toArray := by
      obtain ⟨o, e, r⟩ := tl
      exact ⟨o, m.heap T o (by simpa using nI) e, r⟩
    have hS1 := m.heap S _ (by simpa using hSI) hS
    have nx := putL_next (xs0 := xs0) hx
    have ln := putL_len (xs0 := xs0) (xss := xss) (i + 1)
    rw [nx, List.length_append] at ln
    show wpAny _ A.in1 ((holding [Value.ref l] (binaryOp .Add (.ref T) (.ref l))).attempt >>= _) _ _ _
    refine wpAny_bind (wpAny_attempt (wpAny_holding (add_ll tl1 hl1 (by omega) ?_)))
    rw [← nx]
    show wpAny _ A.in1 (updateSeq S (fun _ => #[.ref s1.heap.objs.size]) >>= _) _ _ _
    have hS2 : (s1.heap.push { cls := .type "list", data := .seq (putL xs0 xss (i + 1)).toArray }).get? S = some _ := Heap.get?_push_of_some _ hS1
    refine wpAny_bind (wpAny_updateSeq hS2 rfl ?_)
    have hS3 := Heap.get?_update_self (Obj.mapSeq fun _ => #[Value.ref s1.heap.objs.size]) hS2 rfl
    refine wpAny_bind (wpAny_letGo ?_)
    refine wpAny_bind (wpAny_updateSeq hS3 rfl (wpAny_pure ⟨plainId_quiet F.plain_sum_loop _, ?_⟩))
    have hS4 := Heap.get?_update_self (Obj.mapSeq fun _ => #[Value.ref s1.heap.objs.size]) hS3 rfl
    have big : S < s1.heap.objs.size := Heap.lt_size hS1
    have up : ∀ b o, b ≠ S → s1.heap.get? b = some o → (((s1.heap.push { cls := .type "list", data := .seq (putL xs0 xss (i + 1)).toArray }).update S (Obj.mapSeq fun _ => #[Value.ref s1.heap.objs.size])).update S (Obj.mapSeq fun _ => #[Value.ref s1.heap.objs.size])).get? b = some o := fun b o n e =>
      (Heap.get?_update_other _ _ (fun z : S = b => n z.symm)).trans ((Heap.get?_update_other _ _ (fun z : S = b => n z.symm)).trans (Heap.get?_push_of_some _ e))
    have nSI : S ≠ s1.heap.objs.size := Nat.ne_of_lt big
    have hT : (((s1.heap.push { cls := .type "list", data := .seq (putL xs0 xss (i + 1)).toArray }).update S (Obj.mapSeq fun _ => #[Value.ref s1.heap.objs.size])).update S (Obj.mapSeq fun _ => #[Value.ref s1.heap.objs.size])).get? s1.heap.objs.size = some { cls := .type "list", data := .seq (putL xs0 xss (i + 1)).toArray } :=
      (Heap.get?_update_other _ _ nSI).trans ((Heap.get?_update_other _ _ nSI).trans (Heap.get?_push_size _ rfl))
    have ltI : I < s1.heap.objs.size := by
      obtain ⟨⟨o, e, _⟩, _⟩ := st1
      exact Heap.lt_size e
    have h01 : h0.get? s1.heap.objs.size = none := by
      cases z : h0.get? s1.heap.objs.size with
      | none => rfl
      | some o => exact absurd (Heap.lt_size (keep1 _ o z)) (Nat.lt_irrefl _)
    refine ih (i + 1) _ s1.heap.objs.size _ (by omega) lt (W.frame _ s1 _ s1.toks st1 (Nat.le_refl _) fun b hb o e => up b o (fun z => ?_) e) (fun b o e => up b o (fun z => by rw [z, hS0] at e; cases e) (keep1 b o e)) (Nat.ne_of_gt ltI) (fun z => nSI z.symm) ⟨_, hT, rfl, _, rfl⟩ (fun _ => ⟨_, hT⟩) (fun _ => h01) hS4 fun s' T' k1 k2 k3 k4 k5 k6 k7 k8 => hR s' T' k1 (k2.trans m.gens) (k3.trans m.drawn) (k4.trans m.os) k5 (fun _ => trivial) (fun z => by omega) k8
    subst z
    rcases List.mem_cons.mp hb with z | z
    · exact hSI z
    · exact hSa (List.mem_singleton.mp z)
theorem sub_l_str : isSubtype (.type "list") (.type "str") = pure false := by kernel_rfl
theorem sub_l_bytes : isSubtype (.type "list") (.type "bytes") = pure false := by kernel_rfl
theorem sub_l_bytearray : isSubtype (.type "list") (.type "bytearray") = pure false := by kernel_rfl
/-- sum(xss, ys) -/
theorem sum_ll {b : Addr} {Q : Value → Shared → Prop} (hh : A.handled = none) (ha : s.heap.IsList a vs) (hb : s.heap.IsList b xs0.toArray) (hv : ∀ (i : Nat) v, vs[i]? = some v → ∃ l xs, v = .ref l ∧ s.heap.IsList l xs.toArray ∧ xss[i]? = some xs) (hl : vs.size = xss.length)
    (hz : xs0.length + xss.flatten.length ≤ sizeLine)
    (hQ : ∀ (s' : Shared) (T : Addr), (∀ b o, s.heap.get? b = some o → s'.heap.get? b = some o) → s'.gens = s.gens → s'.drawn = s.drawn → s'.os = s.os → (xss = [] → T = b) →
      (xss ≠ [] → (∃ n, s'.heap.get? T = some { cls := .type "list", data := .seq (xs0 ++ xss.flatten).toArray n }) ∧ s.heap.get? T = none) → Q (.ref T) s') : wpAny (model prog w) A (call (.builtin "sum") [.ref a, .ref b]) Q E s := by
  refine call_function_tree F.kind_sum F.plain_sum F.entry_sum (args_sum2 _ _) ?_
  unfold Builtin.«sum»
  simp only [List.length_cons, List.length_nil]
  rw [if_neg (by decide)]
  refine wpAny_bind (wpAny_of_eq (show Builtin.Builtins.bindParams "sum" ["start"] 0 ⟨[.ref b], []⟩ = pure [some (.ref b)] from rfl) ?_)
  refine wpAny_bind (PySem.W.iter_listW (A := A.in1) hh ha fun s2 e W st hf hI keep => ?_)
  have tb : s2.TypeIs (.ref b) "list" := by
    obtain ⟨o, g, c, _⟩ := hb
    exact ⟨o, keep b o g, c⟩
  refine wpAny_bind (wpAny_pure ?_)
  simp only [List.forIn_cons, List.forIn_nil]
  refine wpAny_bind (wpAny_bind (wpAny_bind (wpAny_isInstance (T := "list") (b := false) tb sub_l_str ?_)))
  simp only [Bool.false_eq_true, if_false]
  refine wpAny_pure (wpAny_bind (wpAny_bind (wpAny_isInstance (T := "list") (b := false) tb sub_l_bytes ?_)))
  simp only [Bool.false_eq_true, if_false]
  refine wpAny_pure (wpAny_bind (wpAny_bind (wpAny_isInstance (T := "list") (b := false) tb sub_l_bytearray ?_)))
  simp only [Bool.false_eq_true, if_false]
  refine wpAny_pure (wpAny_pure ?_)
  refine wpAny_bind (wpAny_newObj_type ?_)
  have ltb : b < s.heap.objs.size := by
    obtain ⟨o, g, _⟩ := hb
    exact Heap.lt_size g
  have lta : a < s.heap.objs.size := by
    obtain ⟨o, g, _⟩ := ha
    exact Heap.lt_size g
  have sz : s2.heap.objs.size = s.heap.objs.size + 1 := by
    subst e
    exact Heap.size_push _ _
  have noneS : s.heap.get? s2.heap.objs.size = none := by
    cases z : s.heap.get? s2.heap.objs.size with
    | none => rfl
    | some o => exact absurd (Heap.lt_size z) (Nat.not_lt.mpr (by rw [sz]; exact Nat.le_succ _))
  have up1 : s.heap.objs.size ≤ s2.heap.objs.size := by rw [sz]; exact Nat.le_succ _
  have e0 : putL xs0 xss 0 = xs0 := by simp [putL]
  have en : putL xs0 xss vs.size = xs0 ++ xss.flatten := by
    unfold putL
    rw [hl, List.take_length]
  have pk : ∀ x o, s2.heap.get? x = some o → (s2.heap.push { cls := .type "list", data := .seq #[Value.ref b] }).get? x = some o := fun x o g => Heap.get?_push_of_some _ g
  refine wpAny_pure ⟨plainId_quiet F.plain_sum_loop _, sum_lists (h0 := s.heap) (xs0 := xs0) (xss := xss) W (fun x o g z => hI x o g (List.mem_singleton.mpr z)) hv hz noneS (by rw [sz]; exact Nat.succ_ne_self _) (Nat.ne_of_gt (Nat.lt_of_lt_of_le lta up1)) vs.size 0 _ b 0 rfl (Nat.zero_le _)
    (W.frame 0 s2 _ s2.toks st (Nat.le_refl _) fun x _ o g => pk x o g) (fun x o g => pk x o (keep x o g)) (Nat.ne_of_lt ltb) (Nat.ne_of_lt (Nat.lt_of_lt_of_le ltb up1)) ?_ (fun z => absurd z (Nat.lt_irrefl 0)) (fun z => absurd z (Nat.lt_irrefl 0)) (Heap.get?_push_size _ rfl) fun s' T' k1 k2 k3 k4 k5 _ k7 k8 => ?_⟩
  · rw [e0]
    obtain ⟨o, g, r⟩ := hb
    exact ⟨o, pk b o (keep b o g), r⟩
  · subst e
    rw [en] at k8
    exact hQ s' T' k1 k2 k3 k4 (fun z => k7 (by rw [hl, z]; rfl)) fun z => k8 (by rw [hl]; exact List.length_pos_iff.mpr z)
end

abbrev IsLst (K : PySem.W.Frag) (H : Hp) (v : V) (xs : List V) : Prop := ∃ p, v = .ref p ∧ SqL K H p xs
def rSumL (K : PySem.W.Frag) : List V → Hp → VK → Prop := fun vs H Q => ∃ (a b : Addr) (us : List V) (xss : List (List V)) (ys : List V), vs = [.ref a, .ref b] ∧ SqL K H a us ∧ SqL K H b ys ∧ Paired (IsLst K H) us xss ∧ ys.length + xss.flatten.length ≤ sizeLine ∧
  (xss = [] → Q (.ref b) H) ∧ ∀ p, H p = none → Q (.ref p) (upd H p (.lst (ys ++ xss.flatten)))
section
variable {X : Cx} {pins : List (Addr × Obj)} {σ : L2.St} {H : Hp} {s : Shared}
theorem lists_of (I : Inv X pins σ H s) : ∀ {us : List V} {xss : List (List V)} {is : List Value}, Paired (IsLst X.K H) us xss → Vals us is → ∃ uss : List (List Value), uss.length = is.length ∧ xss.length = is.length ∧ Vals xss.flatten uss.flatten ∧
    ∀ (i : Nat) v, is[i]? = some v → ∃ l xs, v = .ref l ∧ s.heap.IsList l xs.toArray ∧ uss[i]? = some xs
  | _, _, _, .nil, .nil => ⟨[], rfl, rfl, .nil, fun i v h => by simp at h⟩
  | _, _, _, .cons ⟨p, e, h⟩ t, .cons r q => by
    obtain ⟨uss, l1, l2, v1, g⟩ := lists_of I t q
    obtain ⟨us, rv, hl, _⟩ := I.list h
    subst e
    cases r
    refine ⟨us :: uss, by rw [List.length_cons, List.length_cons, l1], by rw [List.length_cons, List.length_cons, l2], ?_, fun i v hv => ?_⟩
    · rw [List.flatten_cons, List.flatten_cons]
      exact rv.append v1
    · cases i with
      | zero =>
        cases hv
        exact ⟨p, us, rfl, hl.isList, rfl⟩
      | succ i => exact g i v hv
theorem cr_sumL (hc : X.calm = true) : CallR X (.builtin "sum") (rSumL X.K) := by
  rintro pins s σ H vs us Q I r ⟨a, b, es, xss, ys, rfl, ha, hb, hx, hz, q0, q⟩
  cases r with
  | cons r1 r2 =>
    cases r2 with
    | cons r2 r3 =>
      cases r3
      cases r1
      cases r2
      obtain ⟨is, rv, hl, _⟩ := I.list ha
      obtain ⟨ks, rk, hk, _⟩ := I.list hb
      obtain ⟨uss, l1, l2, v1, g⟩ := lists_of I hx rv
      have n1 := v1.length
      have n2 := rk.length
      refine sum_ll (xs0 := ks) (xss := uss) (I.ok.hd hc) hl.isList hk.isList (fun i v hv => g i v (by simpa using hv)) (by rw [List.size_toArray]; exact l1.symm) (by omega) fun s' T k1 k2 k3 k4 k5 k6 => ?_
      obtain ⟨hp, gg, d, tk, os⟩ := s'
      dsimp only at k1 k2 k3 k4 k6
      subst k2 k3 k4
      by_cases e : uss = []
      · have ex : xss = [] := List.eq_nil_of_length_eq_zero (by rw [l2, ← l1, e]; rfl)
        rw [k5 e]
        exact ⟨.ref b, H, I.kept k1, rfl, q0 ex⟩
      · obtain ⟨⟨n, k7⟩, k8⟩ := k6 e
        refine ⟨.ref T, _, I.laidN (o := .lst (ys ++ xss.flatten)) k1 k8 (HOk.gone I.hok k8) ⟨by rw [List.length_append]; exact hz, ks ++ uss.flatten, n, rk.append v1, k7⟩, rfl, q T (HOk.gone I.hok k8)⟩
end
def listsD : List D → Option (List (List D))
  | [] => some []
  | .list ds :: r => (listsD r).map (ds :: ·)
  | _ :: _ => none
def opSumL : D → D → Option D
  | .list ds, .list ys => (listsD ds).bind fun xss => if ys.length + xss.flatten.length ≤ 100000 then some (.list (ys ++ xss.flatten)) else none
  | _, _ => none
theorem lists_dq {K : PySem.W.Frag} {S H : Hp} (ex : Ex S H) : ∀ {vs : List V} {ds : List D} {dss : List (List D)}, DqAll S vs ds → listsD ds = some dss → ∃ xss : List (List V), Paired (IsLst K H) vs xss ∧ DqAll S xss.flatten dss.flatten ∧ (xss = [] → dss = [])
  | _, _, _, .nil, h => by
    cases h
    exact ⟨[], .nil, .nil, fun _ => rfl⟩
  | _, _, dss, .cons (d := d) hd t, h => by
    cases d <;> simp only [listsD] at h <;> first | cases h | skip
    obtain ⟨r, hr, rfl⟩ := Option.map_eq_some_iff.mp h
    obtain ⟨xss, p1, p2, _⟩ := lists_dq (K := K) ex t hr
    obtain ⟨a, us, rfl, e1, e2⟩ := dq_list hd
    refine ⟨us :: xss, .cons ⟨a, rfl, SqL.of (ex _ _ e1)⟩ p1, ?_, fun z => by cases z⟩
    rw [List.flatten_cons, List.flatten_cons]
    exact dqa_app e2 p2
section
variable [TabSet] {X : Cx} {F : Fr} {a b : Expr} {f g : M} {pos : Pos}
theorem e_sumL {pp : Pos} (hc : X.calm = true) (hm : X.mg "sum" = none) (ha : PE X a (SE X.K F f)) (hb : PE X b (SE X.K F g)) (hg : Gl X "sum" := by rfl) (hs : starEach [a, b] X.env = (false, eval a X.env) :: starEach [b] X.env := by rfl)
    (hpl : (backTo pos (starEach [b] X.env)).any (·.1) = false := by rfl) (nb : starEach [b] X.env = (false, eval b X.env) :: starEach [] X.env := by rfl) : PE X (.Call (.Name "sum" pp) [a, b] [] pos) (SE X.K F (fOp opSumL f g)) := by
  refine pe_of fun S δ d δ' σ H Q R hf q => ⟨_, pe_callB (cr_sumL hc) hg hm (by decide +kernel) (pa_cons ha (pa_cons hb pa_nil nb) hs) (he := hs) (hpl := hpl), ?_⟩
  obtain ⟨x, δ1, y, h1, h2, h3⟩ := fOp_of hf
  refine ⟨S, δ, x, δ1, R, h1, fun v S1 H1 s1 R1 d1 => ⟨S1, δ1, y, δ', R1, h2, fun w S2 H2 s2 R2 d2 => ?_⟩⟩
  cases x <;> cases y <;> simp only [opSumL] at h3 <;> first | cases h3 | skip
  obtain ⟨dss, h4, h5⟩ := Option.bind_eq_some_iff.mp h3
  split at h5
  · rename_i hz
    cases h5
    obtain ⟨p1, us, rfl, e1, e2⟩ := dq_list d1
    obtain ⟨p2, ys, rfl, e3, e4⟩ := dq_list d2
    have e2' := dqa_ext s2.s e2
    obtain ⟨xss, k1, k2, k3⟩ := lists_dq (K := X.K) R2.sub e2' h4
    have n1 := dqa_len k2
    have n2 := dqa_len e4
    refine ⟨p1, p2, us, xss, ys, rfl, SqL.of (R2.sub _ _ (s2.s _ _ e1)), SqL.of (R2.sub _ _ e3), k1, sz_of (by omega), fun z => ?_, fun p hp => ?_⟩
    · have := k3 z
      subst this
      rw [List.flatten_nil, List.append_nil] at q
      exact q _ S2 H2 (s1.trans s2) R2 d2
    · obtain ⟨g4, g5⟩ := grow_lst R2.sub hp (dqa_app e4 k2)
      exact q _ _ _ ((s1.trans s2).trans (Stp.grow g4)) (R2.grow g4) g5
  · cases h5
end
@[simp] theorem wp_opSumL {ds ys : List D} {Q : D → Prop} : Wp (opSumL (.list ds) (.list ys)) Q ↔ Wp (listsD ds) fun xss => ys.length + xss.flatten.length ≤ 100000 ∧ Q (.list (ys ++ xss.flatten)) := by
  show Wp ((listsD ds).bind _) Q ↔ _
  rcases listsD ds with _ | xss
  · simp
  · by_cases e : ys.length + xss.flatten.length ≤ 100000
    · simp only [Option.bind_some, e, if_true, wp_some, true_and]
    · simp only [Option.bind_some, e, if_false, wp_some, wp_none, false_and]
end Pd

/-! sorted(xs), xs a list of tuples of ints, none of them empty. -/
namespace Pd
open PySem PySem.Spec PyProof.Rows L2
open Evl (Ex)
theorem lexLt_dec : ∀ x y : List Int, HT.lexLt x y = decide (x < y)
  | [], [] => by simp [HT.lexLt]
  | [], _ :: _ => by simp [HT.lexLt]
  | _ :: _, [] => by simp [HT.lexLt]
  | a :: x, b :: y => by
    rw [HT.lexLt_cons, lexLt_dec x y]
    by_cases e : a = b
    · subst e
      simp [List.cons_lt_cons_iff]
    · rw [if_neg e]
      simp [List.cons_lt_cons_iff, e]
theorem le_tups {β : Type} (x : β → List Int) : PySem.W.dataLe false (fun b => .tuple ((x b).map .int)) = fun p q => leT (x p) (x q) := by
  funext p q
  show (!PySem.W.dataLt (.tuple ((x q).map .int)) (.tuple ((x p).map .int))) = _
  rw [PySem.W.dataLt_tuple]
  show (!PySem.W.rowLt ((x q).map .int) ((x p).map .int)) = _
  rw [PySem.W.dataLt_ints]
  unfold leT
  rw [lexLt_dec]
def rSortTn (K : PySem.W.Frag) : List V → Hp → VK → Prop := fun vs H Q => ∃ (a : Addr) (xs : List V) (k : V → List Int), vs = [V.ref a] ∧ SqL K H a xs ∧ (∀ x ∈ xs, ∃ t, x = V.ref t ∧ H t = some (.tup ((k x).map V.int))) ∧ (∀ x ∈ xs, k x ≠ []) ∧
  ∀ ys p, ys.Perm xs → ys.map k = srt leT (xs.map k) → H p = none → Q (.ref p) (upd H p (.lst ys))
theorem ints_reads {h : Heap} : ∀ {us : List Value} {ns : List Int}, IntsAre us ns → ∃ as, ReadsAll h us (ns.map PyData.int) as
  | _, _, .nil => ⟨_, .nil⟩
  | _, _, .cons n t r => by
    obtain ⟨as, q⟩ := ints_reads (h := h) r
    exact ⟨_, .cons (.int n t) q⟩
theorem each_self {R : Value → Value → Prop} : ∀ {vs : List Value}, (∀ v ∈ vs, R v v) → PySem.W.EachIs R vs vs
  | [], _ => .nil
  | v :: vs, h => .cons (h v (List.mem_cons_self ..)) (each_self fun u hu => h u (List.mem_cons_of_mem _ hu))
theorem each_eq : ∀ {vs us : List Value}, PySem.W.EachIs (fun a b => a = b) vs us → vs = us
  | _, _, .nil => rfl
  | _, _, .cons e t => by rw [e, each_eq t]
variable {X : Cx}
theorem cr_sortTn {n : Nat} (hr : Room n X.A) : CallR X (.builtin "sorted") (rSortTn X.K) := by
  rintro pins s σ H vs us Q I r ⟨a, xs, k, rfl, hs, hx, hk, q⟩
  obtain ⟨its, rv, hl, hz⟩ := I.list hs
  obtain ⟨u, rfl, ru⟩ := vals1 r
  obtain rfl : u = Value.ref a := ru
  obtain ⟨e1, e2⟩ := refs_back rv fun x m => by
    obtain ⟨t, e, _⟩ := hx x m
    exact ⟨t, e⟩
  have mem : ∀ v ∈ its, backV v ∈ xs := fun v hv => by
    rw [e1]
    exact List.mem_map.mpr ⟨_, hv, rfl⟩
  have rd : ∀ v ∈ its, ∃ as, Reads s.heap v (.tuple ((k (backV v)).map .int)) as := fun v hv => by
    obtain ⟨t, rfl⟩ := e2 v hv
    obtain ⟨t', e, ht⟩ := hx _ (mem _ hv)
    cases e
    obtain ⟨_, its2, r2, o, g, c, n, d⟩ := I.hok _ _ ht
    obtain ⟨as, ra⟩ := ints_reads (h := s.heap) r2.ints
    exact ⟨as, .tuple g c d ra⟩
  have hun : ∀ b ∈ its, X.A.units + 2 + PyData.depth (.tuple ((k (backV b)).map .int)) < cLine := fun b _ => by
    have := hr.un
    have z : PyData.depth (.tuple ((k (backV b)).map .int)) ≤ 1 := by
      rw [PyData.depth, PySem.W.depth_ints]
      omega
    omega
  refine PySem.W.sorted_data (enc := fun v => .tuple ((k (backV v)).map .int)) (R := fun a b => a = b) hl.isList (each_self fun _ _ => rfl) (each_self rd) (fun d hd d' hd' => ?_) (.inl fun d hd => ?_) (by rw [← rv.length]; exact hz) hun fun out lo ho => ?_
  · obtain ⟨b, _, rfl⟩ := List.mem_map.mp hd
    obtain ⟨b', _, rfl⟩ := List.mem_map.mp hd'
    show PySem.W.alikeAll _ _ = true
    exact PySem.W.alike_ints _ _
  · obtain ⟨b, hb, rfl⟩ := List.mem_map.mp hd
    obtain ⟨m, ms, e⟩ := List.exists_cons_of_ne_nil (hk _ (mem b hb))
    exact ⟨.int m, ms.map .int, by rw [e]; rfl⟩
  · have eo := each_eq ho
    rw [le_tups] at eo
    have tr : ∀ a b c : Value, leT (k (backV a)) (k (backV b)) = true → leT (k (backV b)) (k (backV c)) = true → leT (k (backV a)) (k (backV c)) = true := fun a b c => leT_tr _ _ _
    have tot : ∀ a b : Value, (leT (k (backV a)) (k (backV b)) || leT (k (backV b)) (k (backV a))) = true := fun a b => by
      rw [Bool.or_eq_true]
      exact leT_tot _ _
    have pm : out.Perm its := by
      rw [eo]
      exact List.mergeSort_perm ..
    have pw : out.Pairwise fun a b => leT (k (backV a)) (k (backV b)) = true := by
      rw [eo]
      exact List.pairwise_mergeSort tr tot its
    have h3 : ∀ u ∈ out, ∃ a, u = Value.ref a := fun u hu => e2 u (pm.mem_iff.mp hu)
    obtain ⟨ep, he'⟩ := PyProof.Rows.sortedAll_at s.heap its out.toArray
    have hp : (out.map backV).Perm xs := by
      rw [e1]
      exact pm.map backV
    have hkk : (out.map backV).map k = srt leT (xs.map k) := by
      refine srt_uniq leT_tot leT_tr leT_anti (hp.map k) ?_
      rw [List.map_map]
      exact List.pairwise_map.mpr pw
    refine ⟨.ref _, upd H (s.heap.objs.size + 1) (.lst (out.map backV)), I.laid (t' := s.toks) (fun _ _ => PyProof.Rows.sortedAll_old) (Nat.le_succ _) ⟨?_, out, ep, vals_back h3, he'⟩, rfl, q _ _ hp hkk (I.hok.fresh (Nat.le_succ _))⟩
    rw [hp.length_eq]
    exact hz
/-- sorted(xs): ints, tuples with an empty one in front, tuples of which none is empty -/
def uSort2 (d : D) : Option D := match uSorted d with
  | some r => some r
  | none => match d with
    | .list ds => (tupsD ds).bind fun nss => if nss.all (fun ns => !ns.isEmpty) = true then some (.list ((srt leT nss).map tI)) else none
    | _ => none
variable [TabSet] {F : Fr} {a : Expr} {f : M} {pos : Pos}
theorem e_sort2 {n : Nat} {pp : Pos} (hr : Room n X.A) (hm : X.mg "sorted" = none) (ha : PE X a (SX X.K F f)) (hg : Gl X "sorted" := by rfl) (he : starEach (a :: []) X.env = (false, eval a X.env) :: starEach [] X.env := by rfl) (hpl : (backTo pos (starEach [] X.env)).any (·.1) = false := by rfl) :
    PE X (.Call (.Name "sorted" pp) [a] [] pos) (SE X.K F (f1 uSort2 f)) := by
  refine pe_of fun S δ d δ' σ H Q R hf q => ?_
  obtain ⟨d0, h1, h2⟩ := f1_of hf
  unfold uSort2 at h2
  split at h2
  · rename_i r hu
    cases h2
    exact ⟨_, e_sorted hr hm ha hg he hpl, S, δ, d, δ', R, by rw [f1, h1]; simp [hu], q⟩
  · split at h2
    · rename_i ds
      obtain ⟨nss, h3, h4⟩ := Option.bind_eq_some_iff.mp h2
      split at h4
      · rename_i hne
        cases h4
        refine ⟨_, pe_callB (cr_sortTn hr) hg hm PyProof.Rows.boot_sorted (pa_cons ha pa_nil he) (he := he) (hpl := hpl), ?_⟩
        refine ⟨S, δ, _, δ', R, h1, fun v S1 H1 s1 R1 d1 => ?_⟩
        obtain ⟨p1, v1, rfl, e1, d1⟩ := d1
        rw [tupsD_eq h3] at d1
        obtain ⟨k1, k2⟩ := keys_eq d1
        refine ⟨p1, v1, keyI S1, rfl, SqL.of e1, fun x hx => ?_, fun x hx => ?_, fun ys p y1 y2 hp => ?_⟩
        · obtain ⟨ns, hn⟩ := k2 x hx
          obtain ⟨t, t1, t2⟩ := dq_tI hn
          exact ⟨t, t1, by rw [keyI_eq hn]; exact R1.sub _ _ t2⟩
        · have hm : keyI S1 x ∈ nss := by
            rw [← k1]
            exact List.mem_map.mpr ⟨x, hx, rfl⟩
          have := List.all_eq_true.mp hne _ hm
          intro z
          rw [z] at this
          cases this
        · rw [k1] at y2
          have dy := dqa_keys (S := S1) (ys := ys) fun x hx => k2 x (y1.mem_iff.mp hx)
          rw [y2] at dy
          obtain ⟨g4, g5⟩ := grow_lst R1.sub hp dy
          exact q _ _ _ (s1.trans (Stp.grow g4)) (R1.grow g4) g5
      · cases h4
    · cases h2
end Pd

/-! len(set(xs)), xs a list or tuple of ints. -/
namespace Pd
open PySem PySem.Spec PyProof.Rows L2
open Evl (Ex)
/-- the different ints of a list -/
def ddI : List Int → List Int
  | [] => []
  | a :: r => if r.contains a then ddI r else a :: ddI r
def cntI (ns : List Int) : Nat := (ddI ns).length
theorem dd_mem : ∀ (ns : List Int) (k : Int), k ∈ ddI ns ↔ k ∈ ns
  | [], _ => Iff.rfl
  | a :: r, k => by
    unfold ddI
    split
    · rename_i h
      rw [dd_mem r k, List.mem_cons]
      refine ⟨.inr, fun z => z.elim (fun e => ?_) id⟩
      rw [e]
      simpa using h
    · rw [List.mem_cons, List.mem_cons, dd_mem r k]
theorem dd_nodup : ∀ ns : List Int, (ddI ns).Nodup
  | [] => List.nodup_nil
  | a :: r => by
    unfold ddI
    split
    · exact dd_nodup r
    · rename_i h
      refine List.nodup_cons.mpr ⟨fun z => h ?_, dd_nodup r⟩
      rw [dd_mem] at z
      simpa using z
theorem cnt_eq {ns l : List Int} (h : l.Nodup) (m : ∀ k, k ∈ l ↔ k ∈ ns) : l.length = cntI ns :=
  ((List.perm_ext_iff_of_nodup h (dd_nodup ns)).mpr fun k => (m k).trans (dd_mem ns k).symm).length_eq
theorem fm_nodup (val : Nat → Int) : ∀ i, (firstMet val i).Nodup
  | 0 => List.nodup_nil
  | i + 1 => by
    rw [firstMet_succ]
    unfold step_dedup
    split
    · exact fm_nodup val i
    · rename_i h
      refine List.nodup_append.mpr ⟨fm_nodup val i, by simp, fun a ha b hb e => h ?_⟩
      rw [List.mem_singleton.mp hb] at e
      rw [← e]
      exact List.any_eq_true.mpr ⟨a, ha, by simp⟩
theorem map_getD : ∀ (ns : List Int), (List.range ns.length).map (fun i => ns.getD i 0) = ns
  | ns => by
    apply List.ext_getElem
    · simp
    · intro i h1 h2
      simp [h2]
theorem fm_cnt (ns : List Int) : (firstMet (fun i => ns.getD i 0) ns.length).length = cntI ns := cnt_eq (fm_nodup _ _) fun k => by
  have e := firstMet_any (fun i => ns.getD i 0) ns.length k
  rw [map_getD] at e
  have t : ∀ l : List Int, l.any (· == k) = true ↔ k ∈ l := fun l => by simp
  rw [← t, ← t, e]
def tLenI (K : PySem.W.Frag) (ta : TE) : TE := fun σ H Q => ta σ H fun x H1 => ∃ (l : Addr) (ns : List Int), x = .ref l ∧ SqI K H1 l ns ∧ ns.length ≤ 4000 ∧ Q (.int (cntI ns : Nat)) H1
section
variable {X : Cx} {a : Expr} {ta : TE} {p p2 q pos : Pos}
theorem len_of {pins : List (Addr × Obj)} {σ : L2.St} {H : Hp} {s : Shared} {Q : VK} {ns : List Int} {m : Nat} {S : Int → Bool} {d : Addr} {h' : Heap} {tk : Nat} (I : Inv X pins σ H s) (R : h'.SetOf (intKind X.prog X.w) d S m) (hm : m = cntI ns) (hs : m < 4096) (keep : ∀ b o, s.heap.get? b = some o → h'.get? b = some o) (q : Q (.int (cntI ns : Nat)) H) :
    wpAny (model X.prog X.w) X.A (call (.builtin "len") [.ref d]) (EP X pins σ Q) X.xe { s with heap := h', toks := tk } := by
  obtain ⟨o, es, ep, t, ho, hx, hd, _, _, _, hf, hn⟩ := R
  have I2 : Inv X pins σ H { s with heap := h', toks := tk } := I.kept keep
  refine call_len_set ho hx hd hf (by rw [hn]; omega) ⟨.int (cntI ns : Nat), H, I2.tok _, ⟨_, by rw [hn, hm]⟩, q⟩
theorem pe_lenI (hc : X.calm = true) (hg : Gl X "len") (hm : X.mg "len" = none) (hg2 : Gl X "set") (hm2 : X.mg "set" = none) (ha : PE X a ta) (na : starEach [a] X.env = (false, eval a X.env) :: starEach [] X.env) :
    PE X (.Call (.Name "len" p) [.Call (.Name "set" p2) [a] [] q] [] pos) (tLenI X.K ta) := by
  constructor
  intro pins s σ H Q I h
  refine Call_ (ld_blt I hg hm boot_len (callWith_builtin1 (args_cons (Call_ (ld_blt I hg2 hm2 boot_set (callWith_type1 (args_cons (thn (ha.run pins s σ H _ I h) fun v s1 ⟨x, H1, I1, r1, l, ns, ex, hq, hn, q1⟩ => args_nil ?_) na) na rfl))) rfl) rfl rfl))
  subst ex
  cases r1
  rcases hq with hq | hq
  · obtain ⟨its, r, pl, hz⟩ := I1.list hq
    have ri := r.ints
    have li := ri.length
    refine PySem.call_set_list (ns := ns) (I1.ok.hd hc) pl.isList (by simpa using ri) (by rw [List.size_toArray, li]; show ns.length + 1 < 4096; omega) fun h' tk hS hk => args_nil ?_
    have e9 : its.toArray.size = ns.length := by rw [List.size_toArray, li]
    rw [e9, fm_cnt] at hS
    have hle : cntI ns ≤ ns.length := by
      rw [← fm_cnt]
      exact firstMet_length_le _ _
    exact len_of I1 hS rfl (by omega) (fun b o e => hk b o (Heap.lt_size e) e) q1
  · obtain ⟨its, r, pl, hz⟩ := I1.tuple hq
    have ri := r.ints
    refine call_set_tupI ns (I1.ok.hd hc) pl (by simpa using ri) (by show ns.length + 1 < 4096; omega) fun h' tk c hS hcn hk => args_nil ?_
    have hcc : c = cntI ns := by
      obtain ⟨o, es, ep, t, ho, hx, hd, _, nd, hm, _, _, hes, _⟩ := hS
      have := cnt_eq (ns := ns) nd fun k => by rw [← hm k]; simp
      rw [List.length_map, Array.length_toList] at this
      omega
    exact len_of I1 hS.setOf hcc (by omega) hk q1
end
def uCnt : D → Option D
  | .list ds | .tuple ds => (intsD ds).bind fun ns => if ns.length ≤ 4000 then some (.int (cntI ns : Nat)) else none
  | _ => none
section
variable [TabSet] {X : Cx} {F : Fr} {a : Expr} {f : M} {p p2 q pos : Pos}
theorem e_lenI (hc : X.calm = true) (hm : X.mg "len" = none) (hm2 : X.mg "set" = none) (ha : PE X a (SX X.K F f)) (hg : Gl X "len" := by rfl) (hg2 : Gl X "set" := by rfl) (na : starEach [a] X.env = (false, eval a X.env) :: starEach [] X.env := by rfl) :
    PE X (.Call (.Name "len" p) [.Call (.Name "set" p2) [a] [] q] [] pos) (SE X.K F (f1 uCnt f)) := by
  refine pe_of fun S δ d δ' σ H Q R hf qq => ⟨_, pe_lenI hc hg hm hg2 hm2 ha na, ?_⟩
  obtain ⟨d0, h1, h2⟩ := f1_of hf
  refine ⟨S, δ, d0, δ', R, h1, fun v S1 H1 s1 R1 d1 => ?_⟩
  cases d0 <;> simp only [uCnt] at h2 <;> first | cases h2 | skip
  · obtain ⟨ns, h3, h4⟩ := Option.bind_eq_some_iff.mp h2
    split at h4
    · rename_i hn
      cases h4
      obtain ⟨p1, v1, rfl, e1, d1⟩ := d1
      exact ⟨p1, ns, rfl, .inl (by rw [← dqa_ints d1 h3]; exact SqL.of e1), hn, qq _ S1 H1 s1 R1 (.int _)⟩
    · cases h4
  · obtain ⟨ns, h3, h4⟩ := Option.bind_eq_some_iff.mp h2
    split at h4
    · rename_i hn
      cases h4
      obtain ⟨p1, v1, rfl, e1, d1⟩ := dq_tup d1
      exact ⟨p1, ns, rfl, .inr (by rw [← dqa_ints d1 h3]; exact SqT.of (R1.sub _ _ e1)), hn, qq _ S1 H1 s1 R1 (.int _)⟩
    · cases h4
end
theorem wp_bindC {o : Option (List Int)} {Q : D → Prop} : Wp (o.bind fun ns => if ns.length ≤ 4000 then some (PyData.int (cntI ns : Nat)) else none) Q ↔ Wp o fun ns => ns.length ≤ 4000 ∧ Q (.int (cntI ns : Nat)) := by
  rcases o with _ | ns
  · simp
  · by_cases e : ns.length ≤ 4000
    · simp [e]
    · simp only [Option.bind_some, e, if_false, wp_some, wp_none, false_and]
@[simp] theorem wp_uCntL {ds : List D} {Q : D → Prop} : Wp (uCnt (.list ds)) Q ↔ Wp (intsD ds) fun ns => ns.length ≤ 4000 ∧ Q (.int (cntI ns : Nat)) := wp_bindC
@[simp] theorem wp_uCntT {ds : List D} {Q : D → Prop} : Wp (uCnt (.tuple ds)) Q ↔ Wp (intsD ds) fun ns => ns.length ≤ 4000 ∧ Q (.int (cntI ns : Nat)) := wp_bindC
end Pd

/-! A statement that reads an own list or dict as a value: from there on it stands as it is. -/
namespace Pd
open PySem PySem.Spec PyProof.Rows L2
open Evl (Ex)
/-- what slot i has for itself is given away before -/
def givD (i : Nat) (δ : DE) : Option DE := match δ[i]? with
  | some (.ow ob) => if i ≠ 0 then some (δ.set i (.sh (obD ob))) else none
  | _ => some δ
def sGive (i : Nat) (ms : MS) : MS := fun δ => (givD i δ).bind ms
section
variable [TabSet] {X : Cx} {F : Fr} {W : WX} {st : Stmt} {ms : MS}
theorem s_give {i : Nat} (h : PS X st (SS X.K X.mg F W ms)) : PS X st (SS X.K X.mg F W (sGive i ms)) := ps_of h fun Z σ H hw => by
  obtain ⟨S, δ, o, R, hf, q⟩ := hw
  obtain ⟨δ1, h1, h2⟩ := Option.bind_eq_some_iff.mp hf
  unfold givD at h1
  split at h1
  · rename_i ob e
    split at h1
    · rename_i h0
      cases h1
      obtain ⟨a, S1, e1, ex, dq, R1⟩ := R.giveO e h0
      exact ⟨S1, _, o, R1, h2, out_ext ex q⟩
    · cases h1
  · cases h1
    exact ⟨S, δ, o, R, h2, q⟩
end
@[simp] theorem wp_sGive {i : Nat} {ms : MS} {δ : DE} {Q : Out → Prop} : Wp (sGive i ms δ) Q ↔ Wp (givD i δ) fun δ1 => Wp (ms δ1) Q := by
  unfold sGive
  rcases givD i δ with _ | δ1 <;> simp
theorem giv_ow {i : Nat} {δ : DE} {ob : Ob} (h : δ[i]? = some (.ow ob)) (h0 : i ≠ 0) : givD i δ = some (δ.set i (.sh (obD ob))) := by
  unfold givD
  rw [h]
  simp [h0]
theorem giv_sh {i : Nat} {δ : DE} {d : D} (h : δ[i]? = some (.sh d)) : givD i δ = some δ := by
  unfold givD
  rw [h]
end Pd

/-! all(xss), xss a list of lists: none of them is empty. -/
namespace Pd
open PySem PySem.Spec PyProof.Rows L2
open Evl (Ex)
theorem map_getL {α : Type} : ∀ (xs : List (List α)), (List.range xs.length).map (fun i => xs.getD i []) = xs
  | xs => by
    apply List.ext_getElem
    · simp
    · intro i h1 h2
      simp [h2]
section
variable {prog : Program} {w : World} {A : Around} {E : Value → Shared → Prop} {s : Shared}
variable {R : Result → Shared → Prop} {I a : Addr} {vs : Array Value} {h0 : Heap}
theorem all_lists {tr : Nat → Bool} (W : WalksS prog w A.in1 I [I, a] [I] (fun x y => y = x) vs.size (fun i v => vs[i]? = some v) (fun i s' => s'.heap.IsListIter I a i ∧ s'.heap.IsList a vs))
    (hI : ∀ b o, h0.get? b = some o → b ≠ I) (hv : ∀ (i : Nat) v, vs[i]? = some v → ∃ (l : Addr) (xs : List Value), v = .ref l ∧ h0.IsList l xs.toArray ∧ tr i = !xs.isEmpty ∧ xs.length ≤ sizeLine) :
    ∀ (k i : Nat) (s : Shared), vs.size - i = k → i ≤ vs.size → (s.heap.IsListIter I a i ∧ s.heap.IsList a vs) → (∀ b o, h0.get? b = some o → s.heap.get? b = some o) →
      (∀ (s' : Shared), (∀ b o, h0.get? b = some o → s'.heap.get? b = some o) → s'.gens = s.gens → s'.drawn = s.drawn → s'.os = s.os → R (.ok (.ret (.bool (((List.range vs.size).drop i).all tr)))) s') →
      codeAny (model prog w) A (.builtin "all.loop" ⟨[.ref I], []⟩) R s := by
  intro k
  induction k with
  | zero =>
    intro i s hk hi st keep hR
    have ei : i = vs.size := by omega
    subst ei
    refine codeAny_builtin F.entry_all_loop ?_
    rw [Around.under_plainId F.plain_all_loop _]
    show wpAny _ A.in1 (pyNext (.ref I) >>= _) _ _ s
    refine wpAny_bind (W.done s _ _ st fun s' m => ?_)
    refine wpAny_bind (wpAny_rule (wpAny_pure ?_))
    have z := hR s' (fun b o e => m.heap b o (by simpa using hI b o e) (keep b o e)) m.gens m.drawn m.os
    rw [List.drop_of_length_le (by rw [List.length_range]; exact Nat.le_refl _)] at z
    exact z
  | succ k ih =>
    intro i s hk hi st keep hR
    have lt : i < vs.size := by omega
    have hd : (List.range vs.size).drop i = i :: (List.range vs.size).drop (i + 1) := by
      rw [List.drop_eq_getElem_cons (by rw [List.length_range]; exact lt)]
      simp
    rw [hd, List.all_cons] at hR
    refine codeAny_builtin F.entry_all_loop ?_
    rw [Around.under_plainId F.plain_all_loop _]
    show wpAny _ A.in1 (pyNext (.ref I) >>= _) _ _ s
    refine wpAny_bind (W.item i s _ _ lt st fun v s1 hP st1 m => ?_)
    obtain ⟨l, xs, rfl, ⟨o, e, r⟩, ht, hz⟩ := hv i v hP
    have keep1 : ∀ b o, h0.get? b = some o → s1.heap.get? b = some o := fun b o e => m.heap b o (by simpa using hI b o e) (keep b o e)
    have hsz : ((xs.toArray.size : Nat) : Int) < 2 ^ 63 := by
      rw [List.size_toArray]
      have := hz
      rw [sizeLine_eq] at this
      omega
    refine wpAny_bind (wpAny_holding (wpAny_truthy_list ⟨o, keep1 l o e, r⟩ hsz ?_))
    refine wpAny_bind (wpAny_letGo ?_)
    have eb : (!xs.toArray.isEmpty) = tr i := by rw [ht]; simp
    rw [eb]
    cases hb : tr i with
    | true =>
      rw [hb, Bool.true_and] at hR
      refine wpAny_pure ⟨plainId_quiet F.plain_all_loop _, ih (i + 1) _ (by omega) lt st1 keep1 fun s' k1 k2 k3 k4 => hR s' k1 (k2.trans m.gens) (k3.trans m.drawn) (k4.trans m.os)⟩
    | false =>
      rw [hb, Bool.false_and] at hR
      exact wpAny_bind (wpAny_rule (wpAny_pure (hR _ keep1 m.gens m.drawn m.os)))
theorem all_ll {xss : List (List Value)} {Q : Value → Shared → Prop} (hh : A.handled = none) (ha : s.heap.IsList a vs) (hv : ∀ (i : Nat) v, vs[i]? = some v → ∃ (l : Addr) (xs : List Value), v = .ref l ∧ s.heap.IsList l xs.toArray ∧ xss[i]? = some xs ∧ xs.length ≤ sizeLine) (hl : vs.size = xss.length)
    (hQ : ∀ (s' : Shared), (∀ b o, s.heap.get? b = some o → s'.heap.get? b = some o) → s'.gens = s.gens → s'.drawn = s.drawn → s'.os = s.os → Q (.bool (xss.all fun xs => !xs.isEmpty)) s') : wpAny (model prog w) A (call (.builtin "all") [.ref a]) Q E s := by
  refine call_function_tree F.kind_all F.plain_all F.entry_all (F.args_all1 _) ?_
  unfold Builtin.«all»
  refine wpAny_bind (m := oneArg "all" _) (wpAny_pure ?_)
  refine wpAny_bind (PySem.W.iter_listW (A := A.in1) hh ha fun s2 e W st hf hI keep => ?_)
  have tr : (List.range vs.size).all (fun i => !(xss.getD i []).isEmpty) = xss.all fun xs => !xs.isEmpty := by
    rw [hl]
    conv => rhs; rw [← map_getL xss]
    rw [List.all_map]
    rfl
  refine wpAny_pure ⟨plainId_quiet F.plain_all_loop _, all_lists (h0 := s.heap) (tr := fun i => !(xss.getD i []).isEmpty) W (fun x o g z => hI x o g (List.mem_singleton.mpr z)) (fun i v h => ?_) vs.size 0 s2 rfl (Nat.zero_le _) st keep fun s' k1 k2 k3 k4 => ?_⟩
  · obtain ⟨l, xs, h1, h2, h3, h4⟩ := hv i v h
    refine ⟨l, xs, h1, h2, ?_, h4⟩
    rw [List.getD_eq_getElem?_getD, h3]
    rfl
  · subst e
    rw [List.drop_zero, tr]
    exact hQ s' k1 k2 k3 k4
end
section
variable {X : Cx} {pins : List (Addr × Obj)} {σ : L2.St} {H : Hp} {s : Shared}
theorem lists_of2 (I : Inv X pins σ H s) : ∀ {us : List V} {xss : List (List V)} {is : List Value}, Paired (IsLst X.K H) us xss → Vals us is → ∃ uss : List (List Value), uss.length = is.length ∧ uss.map List.isEmpty = xss.map List.isEmpty ∧
    ∀ (i : Nat) v, is[i]? = some v → ∃ (l : Addr) (xs : List Value), v = .ref l ∧ s.heap.IsList l xs.toArray ∧ uss[i]? = some xs ∧ xs.length ≤ sizeLine
  | _, _, _, .nil, .nil => ⟨[], rfl, rfl, fun i v h => by simp at h⟩
  | _, _, _, .cons (b := xs) ⟨p, e, h⟩ t, .cons r q => by
    obtain ⟨uss, l1, l2, g⟩ := lists_of2 I t q
    obtain ⟨us, rv, hl, hz⟩ := I.list h
    subst e
    cases r
    have ln := rv.length
    have ee : us.isEmpty = xs.isEmpty := by
      cases us <;> cases xs <;> first | rfl | (simp at ln)
    refine ⟨us :: uss, by rw [List.length_cons, List.length_cons, l1], by rw [List.map_cons, List.map_cons, l2, ee], fun i v hv => ?_⟩
    cases i with
    | zero =>
      cases hv
      exact ⟨p, us, rfl, hl.isList, rfl, by rw [← ln]; exact hz⟩
    | succ i => exact g i v hv
def rAllL (K : PySem.W.Frag) : List V → Hp → VK → Prop := fun vs H Q => ∃ (a : Addr) (us : List V) (xss : List (List V)), vs = [.ref a] ∧ SqL K H a us ∧ Paired (IsLst K H) us xss ∧ Q (.bl (xss.all fun xs => !xs.isEmpty)) H
theorem cr_allL (hc : X.calm = true) : CallR X (.builtin "all") (rAllL X.K) := by
  rintro pins s σ H vs us Q I r ⟨a, es, xss, rfl, ha, hx, q⟩
  rw [Vals.ref1 r]
  obtain ⟨is, rv, hl, _⟩ := I.list ha
  obtain ⟨uss, l1, l2, g⟩ := lists_of2 I hx rv
  have ea : (uss.all fun xs => !xs.isEmpty) = xss.all fun xs => !xs.isEmpty := by
    have z : ∀ {α : Type} (l : List (List α)), (l.all fun xs => !xs.isEmpty) = (l.map List.isEmpty).all fun b => !b := fun l => by rw [List.all_map]; rfl
    rw [z, z, l2]
  refine all_ll (xss := uss) (I.ok.hd hc) hl.isList (fun i v hv => g i v (by simpa using hv)) (by rw [List.size_toArray]; exact l1.symm) fun s' k1 k2 k3 k4 => ?_
  obtain ⟨hp, gg, d, tk, os⟩ := s'
  dsimp only at k1 k2 k3 k4
  subst k2 k3 k4
  rw [ea]
  exact ⟨.bl _, H, I.kept k1, rfl, q⟩
end
/-- all(xs) of bools, or of lists -/
def uAll2 (d : D) : Option D := match uAll d with
  | some r => some r
  | none => match d with
    | .list ds => (listsD ds).map fun xss => .bool (xss.all fun xs => !xs.isEmpty)
    | _ => none
section
variable [TabSet] {X : Cx} {F : Fr} {a : Expr} {f : M} {pos : Pos}
theorem lists_emp {K : PySem.W.Frag} {S H : Hp} (ex : Ex S H) : ∀ {vs : List V} {ds : List D} {dss : List (List D)}, DqAll S vs ds → listsD ds = some dss → ∃ xss : List (List V), Paired (IsLst K H) vs xss ∧ (xss.all fun xs => !xs.isEmpty) = dss.all fun xs => !xs.isEmpty
  | _, _, _, .nil, h => by
    cases h
    exact ⟨[], .nil, rfl⟩
  | _, _, dss, .cons (d := d) hd t, h => by
    cases d <;> simp only [listsD] at h <;> first | cases h | skip
    rename_i ds0
    obtain ⟨r, hr, rfl⟩ := Option.map_eq_some_iff.mp h
    obtain ⟨xss, p1, p2⟩ := lists_emp (K := K) ex t hr
    obtain ⟨a, us, rfl, e1, e2⟩ := dq_list hd
    have ln := dqa_len e2
    have ee : us.isEmpty = ds0.isEmpty := by
      cases us <;> cases ds0 <;> first | rfl | (simp at ln)
    exact ⟨us :: xss, .cons ⟨a, rfl, SqL.of (ex _ _ e1)⟩ p1, by rw [List.all_cons, List.all_cons, p2, ee]⟩
theorem e_all2 {pp : Pos} (hc : X.calm = true) (hm : X.mg "all" = none) (ha : PE X a (SX X.K F f)) (hg : Gl X "all" := by rfl) (he : starEach (a :: []) X.env = (false, eval a X.env) :: starEach [] X.env := by rfl) (hpl : (backTo pos (starEach [] X.env)).any (·.1) = false := by rfl) :
    PE X (.Call (.Name "all" pp) [a] [] pos) (SE X.K F (f1 uAll2 f)) := by
  refine pe_of fun S δ d δ' σ H Q R hf q => ?_
  obtain ⟨d0, h1, h2⟩ := f1_of hf
  unfold uAll2 at h2
  split at h2
  · rename_i r hu
    cases h2
    exact ⟨_, e_all (hc := hc) (hg := hg) (hm := hm) (ha := ha) (he := he) (hpl := hpl), S, δ, d, δ', R, by rw [f1, h1]; simp [hu], q⟩
  · split at h2
    · rename_i ds
      obtain ⟨dss, h3, h4⟩ := Option.map_eq_some_iff.mp h2
      cases h4
      refine ⟨_, pe_callB (cr_allL hc) hg hm (by decide +kernel) (pa_cons ha pa_nil he) (he := he) (hpl := hpl), S, δ, _, δ', R, h1, fun v S1 H1 s1 R1 d1 => ?_⟩
      obtain ⟨p1, v1, rfl, e1, d1⟩ := d1
      obtain ⟨xss, k1, k2⟩ := lists_emp (K := X.K) R1.sub d1 h3
      exact ⟨p1, v1, xss, rfl, SqL.of e1, k1, by rw [k2]; exact q _ S1 H1 s1 R1 (.bl _)⟩
    · cases h2
end
end Pd

/-! all over bools or lists, wished for from behind. -/
namespace Pd
open PySem PySem.Spec PyProof.Rows L2
theorem bools_lists : ∀ {α : Type} (f : α → List D) (xs : List α), xs ≠ [] → boolsD (xs.map fun x => PyData.list (f x)) = none
  | _, _, [], h => absurd rfl h
  | _, f, x :: r, _ => by simp [boolsD]
theorem lists_map {α : Type} (f : α → List D) : ∀ xs : List α, listsD (xs.map fun x => PyData.list (f x)) = some (xs.map f)
  | [] => rfl
  | x :: r => by
    rw [List.map_cons]
    simp only [listsD, lists_map f r, Option.map_some, List.map_cons]
theorem all2_lists {α : Type} (f : α → List D) (xs : List α) : uAll2 (.list (xs.map fun x => .list (f x))) = some (.bool (xs.all fun x => !(f x).isEmpty)) := by
  unfold uAll2
  cases xs with
  | nil => rfl
  | cons x r =>
    have e : uAll (.list ((x :: r).map fun x => .list (f x))) = none := by
      have e0 : ∀ L : List D, uAll (.list L) = (boolsD L).map fun bs => .bool (bs.all fun k => k) := fun _ => rfl
      rw [e0, bools_lists f (x :: r) (by simp)]
      rfl
    rw [e]
    show (listsD ((x :: r).map fun x => PyData.list (f x))).map _ = _
    rw [lists_map, Option.map_some, List.all_map]
    rfl
end Pd

/-! tuple * int, whichever int -/
namespace Pd
open PySem PySem.Spec PyProof.Rows L2
open Evl (Ex)
theorem tuple_mulS (l : Addr) (items : Array Value) (n : Nat) (dd : Option Addr) (sl : Array (Option Value)) (x : Int) (u : Tok) (c0 : (decide (x < -(2 ^ 63)) || decide (x ≥ 2 ^ 63)) = false) (c1 : (items.isEmpty || x == 1) = true) :
    Meets (Builtin.«tuple.__mul__» ⟨[.ref l, .int x u], []⟩) (fun _ R s => s.heap.get? l = some { cls := .type "tuple", dict := dd, data := .seq items n, slots := sl } ∧
      R (.ok (.ret (Value.ref l))) s) :=
  .of_wp fun prog w A R s h => by
    obtain ⟨hp, g, d, tk, os⟩ := s
    obtain ⟨hl, h⟩ := h
    have f1 := AutoSeq1.idx_int
    wp_walk using wpAny_loadPart' hl
    repeat (first
      | (refine wpAny_ite_false (decide_eq_false (by rw [c0]; exact Bool.false_ne_true)) ?_; wp_walk using wpAny_loadPart' hl)
      | (refine wpAny_ite_true (decide_eq_true (by rw [c1])) ?_; wp_walk using wpAny_loadPart' hl))
    exact ⟨_, rfl, h⟩
theorem tuple_mul0 (l : Addr) (items : Array Value) (n : Nat) (dd : Option Addr) (sl : Array (Option Value)) (x : Int) (u : Tok) (c0 : (decide (x < -(2 ^ 63)) || decide (x ≥ 2 ^ 63)) = false) (c1 : (items.isEmpty || x == 1) = false) (c2 : (decide (x ≤ 0) || items.isEmpty) = true) :
    Meets (Builtin.«tuple.__mul__» ⟨[.ref l, .int x u], []⟩) (fun _ R s => s.heap.get? l = some { cls := .type "tuple", dict := dd, data := .seq items n, slots := sl } ∧
      R (.ok (.ret (Value.ref s.heap.objs.size))) { s with heap := s.heap.push { cls := Value.type "tuple", data := Data.seq #[] }, toks := s.toks }) :=
  .of_wp fun prog w A R s h => by
    obtain ⟨hp, g, d, tk, os⟩ := s
    obtain ⟨hl, h⟩ := h
    have f1 := AutoSeq1.idx_int
    wp_walk using wpAny_loadPart' hl
    repeat (first
      | (refine wpAny_ite_false (decide_eq_false (by rw [c0]; exact Bool.false_ne_true)) ?_; wp_walk using wpAny_loadPart' hl)
      | (refine wpAny_ite_false (decide_eq_false (by rw [c1]; exact Bool.false_ne_true)) ?_; wp_walk using wpAny_loadPart' hl)
      | (refine wpAny_ite_true (decide_eq_true (by rw [c2])) ?_; wp_walk using wpAny_loadPart' hl))
    exact ⟨_, rfl, h⟩
def rRepA (K : PySem.W.Frag) : R2 := fun x y H Q => ∃ l k xs, x = .ref l ∧ y = .int k ∧ SqT K H l xs ∧ -1000 ≤ k ∧ k ≤ 1000 ∧ xs.length ≤ 1000 ∧ ((xs = [] ∨ k = 1) → Q (.ref l) H) ∧ (¬(xs = [] ∨ k = 1) → ∀ p, H p = none → Q (.ref p) (upd H p (.tup (List.replicate k.toNat xs).flatten)))
section
variable {X : Cx}
theorem op_repA : OpR X (binaryOp .Mult) (rRepA X.K) := by
  intro pins s σ H x y v u Q I rx ry h
  obtain ⟨l, k, xs, rfl, rfl, hT, h1, h2, hz, q1, q2⟩ := h
  by_cases hk : xs ≠ [] ∧ 2 ≤ k
  · exact op_repT pins s σ H _ _ v u Q I rx ry ⟨l, k, xs, rfl, rfl, hT, hk.1, hk.2, h2, hz, q2 fun h => by
      rcases h with h | h
      · exact hk.1 h
      · omega⟩
  cases rx
  obtain ⟨t, rfl⟩ := ry
  obtain ⟨its, r, ⟨⟨cls, dd, data, sl⟩, ho, hc, n, hd⟩, hs⟩ := I.tuple hT
  simp only at hc hd
  subst hc hd
  have hle : its.length = xs.length := r.length.symm
  have c0 : (decide (k < -(2 ^ 63)) || decide (k ≥ 2 ^ 63)) = false := by
    rw [decide_eq_false (by omega), decide_eq_false (by omega)] <;> rfl
  have hemp : its.toArray.isEmpty = xs.isEmpty := by
    cases its <;> cases xs <;> first | rfl | (simp at hle)
  by_cases hc : xs = [] ∨ k = 1
  · have c1 : (its.toArray.isEmpty || k == 1) = true := by
      rw [hemp]
      rcases hc with rfl | rfl
      · rfl
      · simp
    exact wpAny_binaryOp_repeat_ref (T := "tuple") (U := "int") (by decide) ⟨_, ho, rfl⟩ (fun s' => typeIs_int s' k t) noFill_tuple_mul F.fills_int_mul F.slot_int_rmul repeat_tuple F.slot_int_index.lookup
      (call_meets F.slot_int_rmul (typeIs_int s k t) F.entry_int_rmul (F.args_int_rmul_2 _ _) (int_rmul_tuple k t l its.toArray n dd sl)
        ⟨ho, rfl, ⟨_, ho, rfl⟩, call_meets F.slot_tuple_mul ⟨_, ho, rfl⟩ F.entry_tuple_mul (F.args_tuple_mul_2 _ _) (tuple_mulS l its.toArray n dd sl k t c0 c1) ⟨ho, ⟨.ref l, H, I, rfl, q1 hc⟩⟩⟩)
  · have hx : xs ≠ [] := fun e => hc (.inl e)
    have hk0 : k ≤ 0 := by
      rcases Int.lt_or_le 0 k with z | z
      · exfalso
        have : ¬ k = 1 := fun e => hc (.inr e)
        exact hk ⟨hx, by omega⟩
      · exact z
    have c1 : (its.toArray.isEmpty || k == 1) = false := by
      rw [hemp]
      cases xs with
      | nil => exact absurd rfl hx
      | cons a b =>
        show (k == 1) = false
        exact beq_eq_false_iff_ne.mpr (by omega)
    have c2 : (decide (k ≤ 0) || its.toArray.isEmpty) = true := by
      rw [decide_eq_true hk0]
      rfl
    refine wpAny_binaryOp_repeat_ref (T := "tuple") (U := "int") (by decide) ⟨_, ho, rfl⟩ (fun s' => typeIs_int s' k t) noFill_tuple_mul F.fills_int_mul F.slot_int_rmul repeat_tuple F.slot_int_index.lookup
      (call_meets F.slot_int_rmul (typeIs_int s k t) F.entry_int_rmul (F.args_int_rmul_2 _ _) (int_rmul_tuple k t l its.toArray n dd sl)
        ⟨ho, rfl, ⟨_, ho, rfl⟩, call_meets F.slot_tuple_mul ⟨_, ho, rfl⟩ F.entry_tuple_mul (F.args_tuple_mul_2 _ _) (tuple_mul0 l its.toArray n dd sl k t c0 c1 c2) ⟨ho, ?_⟩⟩)
    have e0 : (List.replicate k.toNat xs).flatten = [] := by
      rw [show k.toNat = 0 by omega]
      rfl
    rw [e0] at q2
    refine ⟨.ref s.heap.objs.size, _, I.laid (t' := s.toks) (o := .tup []) (fun b ob q => Heap.get?_push_of_some _ q) (Nat.le_refl _) ?_, rfl, q2 hc _ (I.hok.fresh (Nat.le_refl _))⟩
    exact ⟨by decide, [], .nil, IsTup.new _ _⟩
end
def opMulA : D → D → Option D
  | .tuple xs, .int k => if -1000 ≤ k ∧ k ≤ 1000 ∧ xs.length ≤ 100 then some (.tuple (List.replicate k.toNat xs).flatten) else none
  | x, y => opMul x y
section
variable [TabSet] {X : Cx} {F : Fr} {f g : M} {a b : Expr} {pos : Pos}
theorem e_mulA (ha : PE X a (SE X.K F f)) (hb : PE X b (SE X.K F g)) : PE X (.BinOp a .Mult b pos) (SE X.K F (fOp opMulA f g)) := by
  refine se_op fun d e' z hz => ?_
  by_cases ht : ∃ xs k, d = .tuple xs ∧ e' = .int k
  · obtain ⟨xs, k, rfl, rfl⟩ := ht
    simp only [opMulA] at hz
    split at hz
    · rename_i hc
      obtain ⟨c1, c2, c3⟩ := hc
      cases hz
      refine ⟨_, pe_op op_repA ha hb, fun S H x y Q ex h1 h2 q => ?_⟩
      obtain ⟨p1, v1, rfl, e1, d1⟩ := dq_tup h1
      have hlen := dqa_len d1
      refine ⟨p1, _, v1, rfl, dq_int h2, SqT.of (ex _ _ e1), c1, c2, by omega, fun hn => ?_, fun hn p hp => ?_⟩
      · refine q _ S H (Grow.refl ex) ?_
        have e : (List.replicate k.toNat xs).flatten = xs := by
          rcases hn with hn | hn
          · subst hn
            cases d1
            simp
          · rw [hn]
            simp
        rw [e]
        exact .tup (e1) d1
      · obtain ⟨g1, g2⟩ := grow_tup ex hp (dqa_rep d1 _)
        exact q _ _ _ g1 g2
    · cases hz
  · have e : opMulA d e' = opMul d e' := by
      cases d <;> try rfl
      cases e' <;> try rfl
      exact absurd ⟨_, _, rfl, rfl⟩ ht
    rw [e] at hz
    cases d <;> cases e' <;> simp only [opMul] at hz <;> first | cases hz | skip
    · split at hz
      · rename_i hc
        cases hz
        refine ⟨_, pe_op op_mul ha hb, fun S H x y Q ex h1 h2 q => ⟨_, _, dq_int h1, dq_int h2, ?_, q _ S H (Grow.refl ex) (.int _)⟩⟩
        rcases (Bool.or_eq_true _ _).mp hc with k | k
        · exact .inl (small_of k)
        · exact .inr (small_of k)
      · cases hz
    · split at hz
      · rename_i hc
        obtain ⟨c1, c2, c3⟩ := hc
        cases hz
        refine ⟨_, pe_op op_rep ha hb, fun S H x y Q ex h1 h2 q => ?_⟩
        obtain ⟨p1, v1, rfl, e1, d1⟩ := dq_list h1
        have hlen := dqa_len d1
        refine ⟨p1, _, v1, rfl, dq_int h2, ex _ _ e1, by omega, by omega, sz_of ?_, fun p hp => ?_⟩
        · rw [hlen]
          exact Nat.le_trans (Nat.mul_le_mul c3 (by omega : _ ≤ 1000)) (by decide)
        · obtain ⟨g1, g2⟩ := grow_lst ex hp (dqa_rep d1 _)
          exact q _ _ _ g1 g2
      · cases hz
    · exact absurd ⟨_, _, rfl, rfl⟩ ht
end
section
variable {QD : D → Prop} {xs : List D} {i j : Int}
@[simp] theorem wp_mulA_i : Wp (opMulA (.int i) (.int j)) QD ↔ (small i || small j) = true ∧ QD (.int (i * j)) := wp_mul_i
@[simp] theorem wp_mulA_l : Wp (opMulA (.list xs) (.int j)) QD ↔ (0 ≤ j ∧ j ≤ 1000 ∧ xs.length ≤ 100) ∧ QD (.list (List.replicate j.toNat xs).flatten) := wp_mul_l
@[simp] theorem wp_mulA_t : Wp (opMulA (.tuple xs) (.int j)) QD ↔ (-1000 ≤ j ∧ j ≤ 1000 ∧ xs.length ≤ 100) ∧ QD (.tuple (List.replicate j.toNat xs).flatten) := by simp [opMulA]
end
end Pd

/-! zip over lists and tuples, mixed. -/
namespace Pd
open PySem PySem.Spec PyProof.Rows L2
open Evl (Ex)
/-- a tuple (true) or a list (false) -/
def SqK (k : Bool) (K : PySem.W.Frag) (H : Hp) (a : Addr) (xs : List V) : Prop := match k with | true => SqT K H a xs | false => SqL K H a xs
def ItK (k : Bool) (h : Heap) (i a : Addr) (n : Nat) : Prop := match k with | true => h.IsTupleIter i a n | false => h.IsListIter i a n
def ObK (k : Bool) (h : Heap) (a : Addr) (its : Array Value) : Prop := match k with | true => h.IsTuple a its | false => h.IsList a its
def ItO (k : Bool) (a : Addr) : Obj := match k with | true => { cls := .type "tuple_iterator", data := .fields #[.ref a, .int 0 0] } | false => { cls := .type "list_iterator", data := .fields #[.ref a, .int 0 0] }
theorem sqk_inv {k : Bool} {X : Cx} {pins : List (Addr × Obj)} {σ : L2.St} {H : Hp} {s : Shared} {a : Addr} {xs : List V} (I : Inv X pins σ H s) (h : SqK k X.K H a xs) : ∃ its, Vals xs its ∧ ObK k s.heap a its.toArray ∧ a < s.heap.objs.size := by
  cases k with
  | true =>
    obtain ⟨its, rv, p, hz⟩ := I.tuple h
    exact ⟨its, rv, p, by obtain ⟨_, q, _⟩ := p; exact Heap.lt_size q⟩
  | false =>
    obtain ⟨its, rv, p, hz⟩ := I.list h
    exact ⟨its, rv, p.isList, p.lt⟩
theorem sqk_inj {k : Bool} {X : Cx} {pins : List (Addr × Obj)} {σ : L2.St} {H : Hp} {s : Shared} {a : Addr} {xs ys : List V} (I : Inv X pins σ H s) (h : SqK k X.K H a xs) (g : SqK k X.K H a ys) : xs = ys := by
  cases k with
  | true => exact I.tuple_inj h g
  | false => exact I.list_inj h g
theorem itk_live {k : Bool} {h : Heap} {i a : Addr} {n : Nat} (t : ItK k h i a n) : ∃ o, h.get? i = some o ∧ ∀ v : Option Value, o.data ≠ .cell v := by
  cases k <;> (obtain ⟨o, e, _, d⟩ := t; exact ⟨o, e, fun v q => by rw [d] at q; cases q⟩)
theorem itk_keep {k : Bool} {h h' : Heap} {i a : Addr} {n : Nat} (t : ItK k h i a n) (kp : ∀ o, h.get? i = some o → h'.get? i = some o) : ItK k h' i a n := by
  cases k <;> (obtain ⟨o, e, c, d⟩ := t; exact ⟨o, kp o e, c, d⟩)
theorem obk_keep {k : Bool} {h h' : Heap} {a : Addr} {its : Array Value} (t : ObK k h a its) (kp : ∀ o, h.get? a = some o → h'.get? a = some o) : ObK k h' a its := by
  cases k <;> (obtain ⟨o, e, r⟩ := t; exact ⟨o, kp o e, r⟩)
theorem draws_k {prog : Program} {w : World} {A : Around} (k : Bool) (hA : A.handled = none) (i a : Addr) (ne : a ≠ i) (its : Array Value) :
    Draws prog w A i [i, a] its.size (fun n v => its[n]? = some v) (fun n h => ItK k h i a n ∧ ObK k h a its) := by
  cases k with
  | true => exact Draws.tuple hA i a ne its
  | false => exact Draws.list hA i a ne its
/-- one that is at its end -/
theorem draws_e {prog : Program} {w : World} {A : Around} (k : Bool) (hA : A.handled = none) (i a : Addr) (n : Nat) (its : Array Value) (hn : its.size ≤ n) :
    Draws prog w A i [i, a] n (fun _ _ => True) (fun j h => j = n ∧ ItK k h i a n ∧ ObK k h a its) where
  live := fun j h st => by
    obtain ⟨o, e, _⟩ := itk_live st.2.1
    exact ⟨o, e⟩
  frame := fun j h h' st kp => ⟨st.1, itk_keep st.2.1 fun o e => kp i (by simp) o e, obk_keep st.2.2 fun o e => kp a (by simp) o e⟩
  item := fun j s Q E hlt st _ => by
    have := st.1
    omega
  done := fun s Q E st q => by
    have hx : its[n]? = none := by simp; omega
    cases k with
    | true => exact wpAny_nextOf_tuple_end hA st.2.1 st.2.2 hx q
    | false => exact wpAny_nextOf_list_end hA st.2.1 st.2.2 hx q
theorem begins_k (k : Bool) (a : Addr) (its : Array Value) : Begins (.ref a) (ItO k a) (fun h => ObK k h a its) := by
  cases k with
  | true => exact begins_tuple a its
  | false => exact begins_list a its
theorem ito_it {k : Bool} {h : Heap} {i a : Addr} (e : h.get? i = some (ItO k a)) : ItK k h i a 0 := by
  cases k <;> exact ⟨_, e, rfl, rfl⟩
/-- two, side by side -/
def ItzK (k l : Bool) (K : PySem.W.Frag) (a b : Addr) : It where
  go n H := ∃ (xs ys : List V) (x y : V), SqK k K H a xs ∧ SqK l K H b ys ∧ xs[n]? = some x ∧ ys[n]? = some y
  yld n H v H' := ∃ T x y, v = .ref T ∧ H T = none ∧ H' = upd H T (.tup [x, y]) ∧ (∀ xs, SqK k K H a xs → xs[n]? = some x) ∧ ∀ ys, SqK l K H b ys → ys[n]? = some y
  stop n H := ∃ xs ys : List V, SqK k K H a xs ∧ SqK l K H b ys ∧ (xs.length ≤ n ∨ ys.length ≤ n)
theorem turn_zipK {P : Program} {w : World} {K : PySem.W.Frag} {es : List Expr} {j : Nat} {tp : Pos} (k l : Bool) {a b z TI TO i1 i2 : Addr} (Z : ZipSep2 z TI TO i1 i2 [i1, a] [i2, b]) (na : a ≠ i1) (nb : b ≠ i2) (n12 : i1 ≠ i2) :
    Turn P w K (.Tuple es j tp) (ItzK k l K a b) [z, TI, TO, i1, i2] z (fun n h => IsZip h z TI TO .none ∧ IsTupOf2 h TI (.ref i1) (.ref i2) ∧ (∃ x y, IsTupOf2 h TO x y) ∧ ItK k h i1 a n ∧ ItK l h i2 b n) where
  mem := List.mem_cons_self ..
  obj := fun n h st c hc => by
    obtain ⟨h1, h2, ⟨x, y, h3⟩, h4, h5⟩ := st
    simp only [List.mem_cons, List.not_mem_nil, or_false] at hc
    rcases hc with rfl | rfl | rfl | rfl | rfl
    · exact ⟨_, h1, fun v q => nomatch q⟩
    · exact ⟨_, h2, fun v q => nomatch q⟩
    · exact ⟨_, h3, fun v q => nomatch q⟩
    · exact itk_live h4
    · exact itk_live h5
  keep := fun n h h' st kp => by
    obtain ⟨h1, h2, ⟨x, y, h3⟩, h4, h5⟩ := st
    exact ⟨kp z (by simp) _ h1, kp TI (by simp) _ h2, ⟨x, y, kp TO (by simp) _ h3⟩, itk_keep h4 fun o e => kp i1 (by simp) o e, itk_keep h5 fun o e => kp i2 (by simp) o e⟩
  item := by
    intro X hP hw hK hc n pins s σ H E I hf st hg
    subst hP hw hK
    obtain ⟨h1, h2, ⟨x0, y0, h3⟩, h4, h5⟩ := st
    obtain ⟨xs, ys, x, y, q1, q2, hx, hy⟩ := hg
    obtain ⟨is1, rv1, p1, z1⟩ := sqk_inv I q1
    obtain ⟨is2, rv2, p2, z2⟩ := sqk_inv I q2
    obtain ⟨u1, hu1, ru1⟩ := rv1.get hx
    obtain ⟨u2, hu2, ru2⟩ := rv2.get hy
    have lt1 : n < is1.toArray.size := by simpa using (List.getElem?_eq_some_iff.mp hu1).1
    have lt2 : n < is2.toArray.size := by simpa using (List.getElem?_eq_some_iff.mp hu2).1
    refine wpAny_pyNext_zipD2_item Z (draws_k (prog := X.prog) (w := X.w) (A := X.A.in1) k (I.ok.hd hc) i1 a na is1.toArray) (draws_k (prog := X.prog) (w := X.w) (A := X.A.in1) l (I.ok.hd hc) i2 b nb is2.toArray) h1 h2 h3 ⟨h4, p1⟩ ⟨h5, p2⟩ lt1 lt2 fun w1 w2 h' tk e1 e2 hz hto hs1 hs2 hT hsz hk => ?_
    have ew1 : w1 = u1 := by
      have q : some w1 = some u1 := e1.symm.trans (by simpa using hu1)
      exact Option.some.inj q
    have ew2 : w2 = u2 := by
      have q : some w2 = some u2 := e2.symm.trans (by simpa using hu2)
      exact Option.some.inj q
    subst ew1 ew2
    refine ⟨_, rfl, wpAny_letOwnedTupleGo_zip (s := { s with heap := h', toks := tk }) hz fun h2' he2 sb => ?_⟩
    have cz : z < s.heap.objs.size := Heap.lt_size h1
    have c1 : i1 < s.heap.objs.size := by obtain ⟨_, q, _⟩ := itk_live h4; exact Heap.lt_size q
    have c2 : i2 < s.heap.objs.size := by obtain ⟨_, q, _⟩ := itk_live h5; exact Heap.lt_size q
    have cTI : TI < s.heap.objs.size := Heap.lt_size h2
    have cTO : TO < s.heap.objs.size := Heap.lt_size h3
    have hT2 : h2'.get? s.heap.objs.size = some { cls := .type "tuple", data := .seq #[w1, w2] } := (sb.2 _ (Nat.ne_of_gt cz)).trans hT
    have new : ObjOk X.prog X.w (upd H s.heap.objs.size (.tup [x, y])) h2' s.heap.objs.size (.tup [x, y]) :=
      ⟨by show 2 ≤ sizeLine; decide, [w1, w2], .cons ru1 (.cons ru2 .nil), ⟨_, hT2, rfl, _, rfl⟩⟩
    have I1 : Inv X pins σ (upd H s.heap.objs.size (.tup [x, y])) { s with heap := h2', toks := tk } :=
      I.turnedNew (ch := [z, TO, i1, i2]) (fun c o hb q => (sb.2 c (fun e => hb (by simp [e]))).trans (hk c o (fun e => hb (by simp [e])) (fun e => hb (by simp [e])) (fun e => hb (by simp [e])) (fun e => hb (by simp [e])) q))
        (fun c hb => hf c (by simp only [List.mem_cons, List.not_mem_nil, or_false] at hb ⊢; rcases hb with h | h | h | h <;> simp [h])) (Nat.le_refl _) new
    have nz1 : i1 ≠ z := fun e => Z.zf1 (by rw [← e]; simp)
    have nz2 : i2 ≠ z := fun e => Z.zf2 (by rw [← e]; simp)
    refine ⟨.ref s.heap.objs.size, _, I1, rfl, ⟨_, x, y, rfl, I.hok.fresh (Nat.le_refl _), rfl, fun us h => by rw [sqk_inj I h q1]; exact hx, fun us h => by rw [sqk_inj I h q2]; exact hy⟩, ⟨he2, ?_, ?_, ?_, ?_⟩, fun c hb => ?_⟩
    · exact (sb.2 TI Z.TIz).trans (hk TI _ Z.TIz Z.TITO Z.TIi1 Z.TIi2 h2)
    · exact ⟨_, _, (sb.2 TO Z.TOz).trans hto⟩
    · exact itk_keep hs1.1 fun o q => (sb.2 i1 nz1).trans q
    · exact itk_keep hs2.1 fun o q => (sb.2 i2 nz2).trans q
    · have hb' : c < s.heap.objs.size := by
        simp only [List.mem_cons, List.not_mem_nil, or_false] at hb
        rcases hb with rfl | rfl | rfl | rfl | rfl <;> assumption
      rw [upd_ne (Nat.ne_of_lt hb')]
      exact (hf c hb).1
  done := by
    intro X hP hw hK hc n pins s σ H E I hf st hg
    subst hP hw hK
    obtain ⟨h1, h2, ⟨x0, y0, h3⟩, h4, h5⟩ := st
    obtain ⟨xs, ys, q1, q2, hl⟩ := hg
    obtain ⟨is1, rv1, p1, z1⟩ := sqk_inv I q1
    obtain ⟨is2, rv2, p2, z2⟩ := sqk_inv I q2
    have l1 := rv1.length
    have l2 := rv2.length
    have fin : ∀ (h' : Heap) (tk : Nat), (∀ (c : Addr) (o : Obj), c ≠ z → c ≠ TO → c ≠ i1 → c ≠ i2 → s.heap.get? c = some o → h'.get? c = some o) → (none : Option Value) = none ∧ Inv X pins σ H { s with heap := h', toks := tk } := fun h' tk hk => ⟨rfl, I.turnedL (ch := [z, TO, i1, i2]) (fun c o hb q => hk c o (fun e => hb (by simp [e])) (fun e => hb (by simp [e])) (fun e => hb (by simp [e])) (fun e => hb (by simp [e])) q) (fun c hb => hf c (by simp only [List.mem_cons, List.not_mem_nil, or_false] at hb ⊢; rcases hb with h | h | h | h <;> simp [h]))⟩
    by_cases e1 : is1.length ≤ n
    · by_cases e2 : is2.length ≤ n
      · exact wpAny_pyNext_zipD2_end Z (draws_e (prog := X.prog) (w := X.w) (A := X.A.in1) k (I.ok.hd hc) i1 a n is1.toArray (by simpa using e1)) (draws_e (prog := X.prog) (w := X.w) (A := X.A.in1) l (I.ok.hd hc) i2 b n is2.toArray (by simpa using e2)) h1 h2 h3 ⟨rfl, h4, p1⟩ ⟨rfl, h5, p2⟩ (Nat.le_refl _) (Nat.le_refl _) (.inl rfl) fin
      · exact wpAny_pyNext_zipD2_end Z (draws_e (prog := X.prog) (w := X.w) (A := X.A.in1) k (I.ok.hd hc) i1 a n is1.toArray (by simpa using e1)) (draws_k (prog := X.prog) (w := X.w) (A := X.A.in1) l (I.ok.hd hc) i2 b nb is2.toArray) h1 h2 h3 ⟨rfl, h4, p1⟩ ⟨h5, p2⟩ (Nat.le_refl _) (show n ≤ is2.length by omega) (.inl rfl) fin
    · have e2 : is2.length ≤ n := by omega
      exact wpAny_pyNext_zipD2_end Z (draws_k (prog := X.prog) (w := X.w) (A := X.A.in1) k (I.ok.hd hc) i1 a na is1.toArray) (draws_e (prog := X.prog) (w := X.w) (A := X.A.in1) l (I.ok.hd hc) i2 b n is2.toArray (by simpa using e2)) h1 h2 h3 ⟨h4, p1⟩ ⟨rfl, h5, p2⟩ (show n ≤ is1.length by omega) (Nat.le_refl _) (.inr rfl) fin
  self := fun A n s Q E st h => wpAny_pyIter_zip st.1 h
def iZipK (K : PySem.W.Frag) (ta : TA) : TI := fun σ H R => ta σ H fun vs H1 => ∃ (k l : Bool) (a b : Addr) (xs ys : List V), vs = [.ref a, .ref b] ∧ SqK k K H1 a xs ∧ SqK l K H1 b ys ∧ R (ItzK k l K a b) H1
theorem pi_zipK {X : Cx} {e e2 : Expr} {ta : TA} {p pos tp : Pos} {es : List Expr} {j : Nat} (hg : Gl X "zip") (hm : X.mg "zip" = none) (ha : PA X [e, e2] ta) (hs : starEach [e, e2] X.env = (false, eval e X.env) :: starEach [e2] X.env := by rfl)
    (hpl : (backTo pos (starEach [e2] X.env)).any (·.1) = false := by rfl) : PI X (.Tuple es j tp) (.Call (.Name "zip" p) [e, e2] [] pos) (iZipK X.K ta) := by
  refine ⟨fun pins s σ H R I h => ?_⟩
  refine Call_ (ld_blt I hg hm boot_zip (PyProof.Rows.callWith_type1 (thn (ha.run pos pins s σ H _ I h) fun us s1 ⟨vs, H1, I1, r1, q1⟩ => ?_) hs hpl))
  obtain ⟨k, l, a, b, xs, ys, ex, hq1, hq2, q⟩ := q1
  subst ex
  cases r1 with
  | cons r rr =>
    cases rr with
    | cons r2 rr2 =>
      cases rr2
      cases r
      cases r2
      obtain ⟨is1, rv1, p1, z1⟩ := sqk_inv I1 hq1
      obtain ⟨is2, rv2, p2, z2⟩ := sqk_inv I1 hq2
      refine zip_begins2 (begins_k k a is1.toArray) (begins_k l b is2.toArray) p1 p2 fun h1 hz hti hto e1 e2 hsz hk => wpAny_pyIter_zip hz ?_
      have I2 : Inv X pins σ H1 { s1 with heap := h1 } := I1.kept (t' := s1.toks) hk
      refine ⟨s1.heap.objs.size + 4, [s1.heap.objs.size + 4, s1.heap.objs.size + 2, s1.heap.objs.size + 3, s1.heap.objs.size, s1.heap.objs.size + 1], _, _, H1, rfl, I2,
        turn_zipK k l (zip_sep2 (N := s1.heap.objs.size) (fp1 := [a]) (fp2 := [b]) (fun c hc => by simp at hc; rw [hc]; exact z1) (fun c hc => by simp at hc; rw [hc]; exact z2)) (Nat.ne_of_lt z1) (Nat.ne_of_lt (Nat.lt_succ_of_lt z2)) (by simp),
        ⟨hz, hti, ⟨_, _, hto⟩, ito_it e1, ito_it e2⟩, fun c hc => ?_, q⟩
      have hle : s1.heap.objs.size ≤ c := by
        simp only [List.mem_cons, List.not_mem_nil, or_false] at hc
        rcases hc with rfl | rfl | rfl | rfl | rfl <;> first | exact Nat.le_refl _ | exact Nat.le_add_right _ _
      exact I1.fpOk hle (I1.hok.fresh hle)
/-! three -/
def ItzK3 (k l m : Bool) (K : PySem.W.Frag) (a b c : Addr) : It where
  go n H := ∃ (xs ys zs : List V) (x y z : V), SqK k K H a xs ∧ SqK l K H b ys ∧ SqK m K H c zs ∧ xs[n]? = some x ∧ ys[n]? = some y ∧ zs[n]? = some z
  yld n H v H' := ∃ T x y z, v = .ref T ∧ H T = none ∧ H' = upd H T (.tup [x, y, z]) ∧ (∀ xs, SqK k K H a xs → xs[n]? = some x) ∧ (∀ ys, SqK l K H b ys → ys[n]? = some y) ∧ ∀ zs, SqK m K H c zs → zs[n]? = some z
  stop n H := ∃ xs ys zs : List V, SqK k K H a xs ∧ SqK l K H b ys ∧ SqK m K H c zs ∧ (xs.length ≤ n ∨ ys.length ≤ n ∨ zs.length ≤ n)
theorem turn_zipK3 {P : Program} {w : World} {K : PySem.W.Frag} {es : List Expr} {j : Nat} {tp : Pos} (k l m : Bool) {a b c z TI TO i1 i2 i3 : Addr} (Z : ZipSep3 z TI TO i1 i2 i3 [i1, a] [i2, b] [i3, c]) (na : a ≠ i1) (nb : b ≠ i2) (nc : c ≠ i3) :
    Turn P w K (.Tuple es j tp) (ItzK3 k l m K a b c) [z, TI, TO, i1, i2, i3] z (fun n h => IsZip h z TI TO .none ∧ IsTupOf3 h TI (.ref i1) (.ref i2) (.ref i3) ∧ (∃ x y u, IsTupOf3 h TO x y u) ∧ ItK k h i1 a n ∧ ItK l h i2 b n ∧ ItK m h i3 c n) where
  mem := List.mem_cons_self ..
  obj := fun n h st c hc => by
    obtain ⟨h1, h2, ⟨x, y, u, h3⟩, h4, h5, h6⟩ := st
    simp only [List.mem_cons, List.not_mem_nil, or_false] at hc
    rcases hc with rfl | rfl | rfl | rfl | rfl | rfl
    · exact ⟨_, h1, fun v q => nomatch q⟩
    · exact ⟨_, h2, fun v q => nomatch q⟩
    · exact ⟨_, h3, fun v q => nomatch q⟩
    · exact itk_live h4
    · exact itk_live h5
    · exact itk_live h6
  keep := fun n h h' st kp => by
    obtain ⟨h1, h2, ⟨x, y, u, h3⟩, h4, h5, h6⟩ := st
    exact ⟨kp z (by simp) _ h1, kp TI (by simp) _ h2, ⟨x, y, u, kp TO (by simp) _ h3⟩, itk_keep h4 fun o e => kp i1 (by simp) o e, itk_keep h5 fun o e => kp i2 (by simp) o e, itk_keep h6 fun o e => kp i3 (by simp) o e⟩
  item := by
    intro X hP hw hK hc n pins s σ H E I hf st hg
    subst hP hw hK
    obtain ⟨h1, h2, ⟨x0, y0, u0, h3⟩, h4, h5, h6⟩ := st
    obtain ⟨xs, ys, zs, x, y, u, q1, q2, q3, hx, hy, hu⟩ := hg
    obtain ⟨is1, rv1, p1, z1⟩ := sqk_inv I q1
    obtain ⟨is2, rv2, p2, z2⟩ := sqk_inv I q2
    obtain ⟨is3, rv3, p3, z3⟩ := sqk_inv I q3
    obtain ⟨u1, hu1, ru1⟩ := rv1.get hx
    obtain ⟨u2, hu2, ru2⟩ := rv2.get hy
    obtain ⟨u3, hu3, ru3⟩ := rv3.get hu
    have lt1 : n < is1.toArray.size := by simpa using (List.getElem?_eq_some_iff.mp hu1).1
    have lt2 : n < is2.toArray.size := by simpa using (List.getElem?_eq_some_iff.mp hu2).1
    have lt3 : n < is3.toArray.size := by simpa using (List.getElem?_eq_some_iff.mp hu3).1
    refine wpAny_pyNext_zipD3_item Z (draws_k (prog := X.prog) (w := X.w) (A := X.A.in1) k (I.ok.hd hc) i1 a na is1.toArray) (draws_k (prog := X.prog) (w := X.w) (A := X.A.in1) l (I.ok.hd hc) i2 b nb is2.toArray) (draws_k (prog := X.prog) (w := X.w) (A := X.A.in1) m (I.ok.hd hc) i3 c nc is3.toArray) h1 h2 h3 ⟨h4, p1⟩ ⟨h5, p2⟩ ⟨h6, p3⟩ lt1 lt2 lt3 fun w1 w2 w3 h' tk e1 e2 e3 hz hto hs1 hs2 hs3 hT hsz hk => ?_
    have ew1 : w1 = u1 := by
      have q : some w1 = some u1 := e1.symm.trans (by simpa using hu1)
      exact Option.some.inj q
    have ew2 : w2 = u2 := by
      have q : some w2 = some u2 := e2.symm.trans (by simpa using hu2)
      exact Option.some.inj q
    have ew3 : w3 = u3 := by
      have q : some w3 = some u3 := e3.symm.trans (by simpa using hu3)
      exact Option.some.inj q
    subst ew1 ew2 ew3
    refine ⟨_, rfl, wpAny_letOwnedTupleGo_zip (s := { s with heap := h', toks := tk }) hz fun h2' he2 sb => ?_⟩
    have cz : z < s.heap.objs.size := Heap.lt_size h1
    have c1 : i1 < s.heap.objs.size := by obtain ⟨_, q, _⟩ := itk_live h4; exact Heap.lt_size q
    have c2 : i2 < s.heap.objs.size := by obtain ⟨_, q, _⟩ := itk_live h5; exact Heap.lt_size q
    have c3 : i3 < s.heap.objs.size := by obtain ⟨_, q, _⟩ := itk_live h6; exact Heap.lt_size q
    have cTI : TI < s.heap.objs.size := Heap.lt_size h2
    have cTO : TO < s.heap.objs.size := Heap.lt_size h3
    have hT2 : h2'.get? s.heap.objs.size = some { cls := .type "tuple", data := .seq #[w1, w2, w3] } := (sb.2 _ (Nat.ne_of_gt cz)).trans hT
    have new : ObjOk X.prog X.w (upd H s.heap.objs.size (.tup [x, y, u])) h2' s.heap.objs.size (.tup [x, y, u]) :=
      ⟨by show 3 ≤ sizeLine; decide, [w1, w2, w3], .cons ru1 (.cons ru2 (.cons ru3 .nil)), ⟨_, hT2, rfl, _, rfl⟩⟩
    have I1 : Inv X pins σ (upd H s.heap.objs.size (.tup [x, y, u])) { s with heap := h2', toks := tk } :=
      I.turnedNew (ch := [z, TO, i1, i2, i3]) (fun c o hb q => (sb.2 c (fun e => hb (by simp [e]))).trans (hk c o (fun e => hb (by simp [e])) (fun e => hb (by simp [e])) (fun e => hb (by simp [e])) (fun e => hb (by simp [e])) (fun e => hb (by simp [e])) q))
        (fun c hb => hf c (by simp only [List.mem_cons, List.not_mem_nil, or_false] at hb ⊢; rcases hb with h | h | h | h | h <;> simp [h])) (Nat.le_refl _) new
    have nz1 : i1 ≠ z := fun e => Z.zf1 (by rw [← e]; simp)
    have nz2 : i2 ≠ z := fun e => Z.zf2 (by rw [← e]; simp)
    have nz3 : i3 ≠ z := fun e => Z.zf3 (by rw [← e]; simp)
    refine ⟨.ref s.heap.objs.size, _, I1, rfl, ⟨_, x, y, u, rfl, I.hok.fresh (Nat.le_refl _), rfl, fun us h => by rw [sqk_inj I h q1]; exact hx, fun us h => by rw [sqk_inj I h q2]; exact hy, fun us h => by rw [sqk_inj I h q3]; exact hu⟩, ⟨he2, ?_, ?_, ?_, ?_, ?_⟩, fun c hb => ?_⟩
    · exact (sb.2 TI Z.TIz).trans (hk TI _ Z.TIz Z.TITO Z.TIi1 Z.TIi2 Z.TIi3 h2)
    · exact ⟨_, _, _, (sb.2 TO Z.TOz).trans hto⟩
    · exact itk_keep hs1.1 fun o q => (sb.2 i1 nz1).trans q
    · exact itk_keep hs2.1 fun o q => (sb.2 i2 nz2).trans q
    · exact itk_keep hs3.1 fun o q => (sb.2 i3 nz3).trans q
    · have hb' : c < s.heap.objs.size := by
        simp only [List.mem_cons, List.not_mem_nil, or_false] at hb
        rcases hb with rfl | rfl | rfl | rfl | rfl | rfl <;> assumption
      rw [upd_ne (Nat.ne_of_lt hb')]
      exact (hf c hb).1
  done := by
    intro X hP hw hK hc n pins s σ H E I hf st hg
    subst hP hw hK
    obtain ⟨h1, h2, ⟨x0, y0, u0, h3⟩, h4, h5, h6⟩ := st
    obtain ⟨xs, ys, zs, q1, q2, q3, hl⟩ := hg
    obtain ⟨is1, rv1, p1, z1⟩ := sqk_inv I q1
    obtain ⟨is2, rv2, p2, z2⟩ := sqk_inv I q2
    obtain ⟨is3, rv3, p3, z3⟩ := sqk_inv I q3
    have l1 := rv1.length
    have l2 := rv2.length
    have l3 := rv3.length
    have fin : ∀ (h' : Heap) (tk : Nat), (∀ (c : Addr) (o : Obj), c ≠ z → c ≠ TO → c ≠ i1 → c ≠ i2 → c ≠ i3 → s.heap.get? c = some o → h'.get? c = some o) → (none : Option Value) = none ∧ Inv X pins σ H { s with heap := h', toks := tk } := fun h' tk hk => ⟨rfl, I.turnedL (ch := [z, TO, i1, i2, i3]) (fun c o hb q => hk c o (fun e => hb (by simp [e])) (fun e => hb (by simp [e])) (fun e => hb (by simp [e])) (fun e => hb (by simp [e])) (fun e => hb (by simp [e])) q) (fun c hb => hf c (by simp only [List.mem_cons, List.not_mem_nil, or_false] at hb ⊢; rcases hb with h | h | h | h | h <;> simp [h]))⟩
    -- each one: at its end, or not yet
    have alt : ∀ (k : Bool) (i a : Addr) (ne : a ≠ i) (is : List Value), ItK k s.heap i a n → ObK k s.heap a is.toArray → ∃ (N : Nat) (P : Nat → Value → Prop) (St : Nat → Heap → Prop), Draws X.prog X.w X.A.in1 i [i, a] N P St ∧ St n s.heap ∧ n ≤ N ∧ (is.length ≤ n → n = N) := fun k i a ne is t o => by
      by_cases e : is.length ≤ n
      · exact ⟨n, _, _, draws_e (prog := X.prog) (w := X.w) (A := X.A.in1) k (I.ok.hd hc) i a n is.toArray (by simpa using e), ⟨rfl, t, o⟩, Nat.le_refl _, fun _ => rfl⟩
      · exact ⟨_, _, _, draws_k (prog := X.prog) (w := X.w) (A := X.A.in1) k (I.ok.hd hc) i a ne is.toArray, ⟨t, o⟩, (show n ≤ is.length by omega), fun z => absurd z e⟩
    obtain ⟨N1, P1, S1, d1, s1, n1, e1⟩ := alt k i1 a na is1 h4 p1
    obtain ⟨N2, P2, S2, d2, s2, n2, e2⟩ := alt l i2 b nb is2 h5 p2
    obtain ⟨N3, P3, S3, d3, s3, n3, e3⟩ := alt m i3 c nc is3 h6 p3
    refine wpAny_pyNext_zipD3_end Z d1 d2 d3 h1 h2 h3 s1 s2 s3 n1 n2 n3 ?_ fin
    rcases hl with h | h | h
    · exact .inl (e1 (by omega))
    · exact .inr (.inl (e2 (by omega)))
    · exact .inr (.inr (e3 (by omega)))
  self := fun A n s Q E st h => wpAny_pyIter_zip st.1 h
def iZipK3 (K : PySem.W.Frag) (ta : TA) : TI := fun σ H R => ta σ H fun vs H1 => ∃ (k l m : Bool) (a b c : Addr) (xs ys zs : List V), vs = [.ref a, .ref b, .ref c] ∧ SqK k K H1 a xs ∧ SqK l K H1 b ys ∧ SqK m K H1 c zs ∧ R (ItzK3 k l m K a b c) H1
theorem pi_zipK3 {X : Cx} {e e2 e3 : Expr} {ta : TA} {p pos tp : Pos} {es : List Expr} {j : Nat} (hg : Gl X "zip") (hm : X.mg "zip" = none) (ha : PA X [e, e2, e3] ta) (hs : starEach [e, e2, e3] X.env = (false, eval e X.env) :: starEach [e2, e3] X.env := by rfl)
    (hpl : (backTo pos (starEach [e2, e3] X.env)).any (·.1) = false := by rfl) : PI X (.Tuple es j tp) (.Call (.Name "zip" p) [e, e2, e3] [] pos) (iZipK3 X.K ta) := by
  refine ⟨fun pins s σ H R I h => ?_⟩
  refine Call_ (ld_blt I hg hm boot_zip (PyProof.Rows.callWith_type1 (thn (ha.run pos pins s σ H _ I h) fun us s1 ⟨vs, H1, I1, r1, q1⟩ => ?_) hs hpl))
  obtain ⟨k, l, m, a, b, c, xs, ys, zs, ex, hq1, hq2, hq3, q⟩ := q1
  subst ex
  cases r1 with
  | cons r rr =>
    cases rr with
    | cons r2 rr2 =>
      cases rr2 with
      | cons r3 rr3 =>
        cases rr3
        cases r
        cases r2
        cases r3
        obtain ⟨is1, rv1, p1, z1⟩ := sqk_inv I1 hq1
        obtain ⟨is2, rv2, p2, z2⟩ := sqk_inv I1 hq2
        obtain ⟨is3, rv3, p3, z3⟩ := sqk_inv I1 hq3
        refine zip_begins3 (begins_k k a is1.toArray) (begins_k l b is2.toArray) (begins_k m c is3.toArray) p1 p2 p3 fun h1 hz hti hto e1 e2 e3 hsz hk => wpAny_pyIter_zip hz ?_
        have I2 : Inv X pins σ H1 { s1 with heap := h1 } := I1.kept (t' := s1.toks) hk
        refine ⟨s1.heap.objs.size + 5, [s1.heap.objs.size + 5, s1.heap.objs.size + 3, s1.heap.objs.size + 4, s1.heap.objs.size, s1.heap.objs.size + 1, s1.heap.objs.size + 2], _, _, H1, rfl, I2,
          turn_zipK3 k l m (zip_sep3 (N := s1.heap.objs.size) (fp1 := [a]) (fp2 := [b]) (fp3 := [c]) (fun d hc => by simp at hc; rw [hc]; exact z1) (fun d hc => by simp at hc; rw [hc]; exact z2) (fun d hc => by simp at hc; rw [hc]; exact z3)) (Nat.ne_of_lt z1) (Nat.ne_of_lt (Nat.lt_succ_of_lt z2)) (Nat.ne_of_lt (Nat.lt_succ_of_lt (Nat.lt_succ_of_lt z3))),
          ⟨hz, hti, ⟨_, _, _, hto⟩, ito_it e1, ito_it e2, ito_it e3⟩, fun c hc => ?_, q⟩
        have hle : s1.heap.objs.size ≤ c := by
          simp only [List.mem_cons, List.not_mem_nil, or_false] at hc
          rcases hc with rfl | rfl | rfl | rfl | rfl | rfl <;> first | exact Nat.le_refl _ | exact Nat.le_add_right _ _
        exact I1.fpOk hle (I1.hok.fresh hle)
end Pd

/-! zip of two or three lists or tuples, over data. -/
namespace Pd
open PySem PySem.Spec PyProof.Rows L2
open Evl (Ex)
/-- the items of a list or a tuple -/
def seqD : D → Option (List D)
  | .list xs => some xs
  | .tuple xs => some xs
  | _ => none
@[simp] theorem seqD_l {xs : List D} : seqD (.list xs) = some xs := rfl
@[simp] theorem seqD_t {xs : List D} : seqD (.tuple xs) = some xs := rfl
@[simp] theorem seqD_tI {ns : List Int} : seqD (tI ns) = some (ns.map .int) := rfl
def iZipX (f g : M) : MA := fun δ => (f δ).bind fun p => (g p.2).bind fun q => (seqD p.1).bind fun xs => (seqD q.1).bind fun ys => some (zipD xs ys, q.2)
def zip3D : List D → List D → List D → List D
  | x :: xs, y :: ys, z :: zs => .tuple [x, y, z] :: zip3D xs ys zs
  | _, _, _ => []
theorem zip3D_len : ∀ xs ys zs : List D, (zip3D xs ys zs).length = min xs.length (min ys.length zs.length)
  | [], _, _ => by simp [zip3D]
  | _ :: _, [], _ => by simp [zip3D]
  | _ :: _, _ :: _, [] => by simp [zip3D]
  | _ :: xs, _ :: ys, _ :: zs => by simp only [zip3D, List.length_cons, zip3D_len xs ys zs]; omega
theorem zip3D_get : ∀ (xs ys zs : List D) (i : Nat) (d : D), (zip3D xs ys zs)[i]? = some d → ∃ x y z, xs[i]? = some x ∧ ys[i]? = some y ∧ zs[i]? = some z ∧ d = .tuple [x, y, z]
  | x :: _, y :: _, z :: _, 0, _, h => by cases h; exact ⟨x, y, z, rfl, rfl, rfl, rfl⟩
  | _ :: xs, _ :: ys, _ :: zs, i + 1, d, h => zip3D_get xs ys zs i d h
  | [], _, _, i, _, h => by simp [zip3D] at h
  | _ :: _, [], _, i, _, h => by simp [zip3D] at h
  | _ :: _, _ :: _, [], i, _, h => by simp [zip3D] at h
def iZip3 (f g h : M) : MA := fun δ => (f δ).bind fun p => (g p.2).bind fun q => (h q.2).bind fun r => (seqD p.1).bind fun xs => (seqD q.1).bind fun ys => (seqD r.1).bind fun zs => some (zip3D xs ys zs, r.2)
section
variable {QA : List D × DE → Prop} {f g h : M} {δ : DE}
@[simp] theorem wp_bind {α β : Type} {o : Option α} {k : α → Option β} {Q : β → Prop} : Wp (o.bind k) Q ↔ Wp o fun a => Wp (k a) Q := by cases o <;> simp
@[simp] theorem wp_iZipX : Wp (iZipX f g δ) QA ↔ Wp (f δ) fun p => Wp (g p.2) fun q => Wp (seqD p.1) fun xs => Wp (seqD q.1) fun ys => QA (zipD xs ys, q.2) := by
  unfold iZipX
  simp
@[simp] theorem wp_iZip3 : Wp (iZip3 f g h δ) QA ↔ Wp (f δ) fun p => Wp (g p.2) fun q => Wp (h q.2) fun r => Wp (seqD p.1) fun xs => Wp (seqD q.1) fun ys => Wp (seqD r.1) fun zs => QA (zip3D xs ys zs, r.2) := by
  unfold iZip3
  simp
end
section
variable [TabSet]
theorem tri_new {S2 H2 : Hp} (x2 : Ex S2 H2) {T : Addr} {x y z : V} {d1 d2 d3 : D} (hT : H2 T = none) (h1 : Dq S2 x d1) (h2 : Dq S2 y d2) (h3 : Dq S2 z d3) : ∃ S3, Grow S2 H2 S3 (upd H2 T (.tup [x, y, z])) ∧ Dq S3 (.ref T) (.tuple [d1, d2, d3]) :=
  ⟨_, grow_tup x2 hT (.cons h1 (.cons h2 (.cons h3 .nil)))⟩
/-- a list or a tuple is one -/
theorem sqk_of {K : PySem.W.Frag} {S H : Hp} {v : V} {d : D} {xs : List D} (e : seqD d = some xs) (h : Dq S v d) (sub : ∀ b o, S b = some o → H b = some o) : ∃ (k : Bool) (a : Addr) (vs : List V), v = .ref a ∧ DqAll S vs xs ∧ ∀ S3 H3 : Hp, (∀ b o, S b = some o → S3 b = some o) → (∀ b o, S3 b = some o → H3 b = some o) → SqK k K H3 a vs := by
  cases d <;> simp only [seqD] at e <;> cases e
  · obtain ⟨a, vs, rfl, e1, d1⟩ := dq_list h
    exact ⟨false, a, vs, rfl, d1, fun S3 H3 x1 x2 => SqL.of (x2 _ _ (x1 _ _ e1))⟩
  · obtain ⟨a, vs, rfl, e1, d1⟩ := dq_tup h
    exact ⟨true, a, vs, rfl, d1, fun S3 H3 x1 x2 => SqT.of (x2 _ _ (x1 _ _ e1))⟩
variable {X : Cx} {F : Fr} {a b c tg : Expr} {pos p : Pos} {f g h : M}
theorem i_zipX {pp tpos : Pos} {elts : List Expr} {kk : Nat} (hg : Gl X "zip" := by rfl) (hm : X.mg "zip" = none) (ha : PE X a (SE X.K F f)) (hb : PE X b (SE X.K F g)) (hs : starEach [a, b] X.env = (false, eval a X.env) :: starEach [b] X.env := by rfl)
    (hpl : (backTo pos (starEach [b] X.env)).any (·.1) = false := by rfl) (nb : starEach [b] X.env = (false, eval b X.env) :: starEach [] X.env := by rfl) : PI X (.Tuple elts kk tpos) (.Call (.Name "zip" pp) [a, b] [] pos) (SI X.K F (iZipX f g)) := by
  refine pi_of fun S δ ds δ' σ H R Rs hf q => ⟨_, pi_zipK hg hm (pa_cons ha (pa_cons hb pa_nil nb) hs) hs hpl, ?_⟩
  unfold iZipX at hf
  obtain ⟨⟨d1, δ1⟩, h1, hf⟩ := Option.bind_eq_some_iff.mp hf
  obtain ⟨⟨d2, δ2⟩, h2, hf⟩ := Option.bind_eq_some_iff.mp hf
  obtain ⟨xs, g1, hf⟩ := Option.bind_eq_some_iff.mp hf
  obtain ⟨ys, g2, hf⟩ := Option.bind_eq_some_iff.mp hf
  cases hf
  refine ⟨S, δ, _, _, Rs, h1, fun v S1 H1 s1 R1 q1 => ⟨S1, _, _, _, R1, h2, fun w S2 H2 s2 R2 q2 => ?_⟩⟩
  obtain ⟨k, p1, v1, rfl, d1, t1⟩ := sqk_of (K := X.K) g1 (dq_ext s2.s q1) R2.sub
  obtain ⟨l, p2, v2, rfl, d2, t2⟩ := sqk_of (K := X.K) g2 q2 R2.sub
  have l1 := dqa_len d1
  have l2 := dqa_len d2
  refine ⟨k, l, p1, p2, v1, v2, rfl, t1 _ _ (fun _ _ z => z) R2.sub, t2 _ _ (fun _ _ z => z) R2.sub, q _ S2 H2 (s1.trans s2) R2 ⟨fun i S3 H3 x1 x2 hi => ?_, fun i S3 H3 x H4 d x1 x2 hy hd => ?_, fun i S3 H3 x1 x2 hi => ?_⟩⟩
  · rw [zipD_len] at hi
    exact ⟨v1, v2, v1[i]'(by omega), v2[i]'(by omega), t1 _ _ x1 x2, t2 _ _ x1 x2, List.getElem?_eq_getElem _, List.getElem?_eq_getElem _⟩
  · obtain ⟨T, x, y, rfl, hT, rfl, k1, k2⟩ := hy
    obtain ⟨dx, dy, z1, z2, rfl⟩ := zipD_get _ _ _ _ hd
    exact pair_new x2 hT (dq_ext x1 (dqa_at d1 z1 (k1 _ (t1 _ _ x1 x2)))) (dq_ext x1 (dqa_at d2 z2 (k2 _ (t2 _ _ x1 x2))))
  · rw [zipD_len] at hi
    exact ⟨v1, v2, t1 _ _ x1 x2, t2 _ _ x1 x2, by omega⟩
theorem i_zip3 {pp tpos : Pos} {elts : List Expr} {kk : Nat} (hg : Gl X "zip" := by rfl) (hm : X.mg "zip" = none) (ha : PE X a (SE X.K F f)) (hb : PE X b (SE X.K F g)) (hc : PE X c (SE X.K F h)) (hs : starEach [a, b, c] X.env = (false, eval a X.env) :: starEach [b, c] X.env := by rfl)
    (hpl : (backTo pos (starEach [b, c] X.env)).any (·.1) = false := by rfl) (nb : starEach [b, c] X.env = (false, eval b X.env) :: starEach [c] X.env := by rfl) (nc : starEach [c] X.env = (false, eval c X.env) :: starEach [] X.env := by rfl) : PI X (.Tuple elts kk tpos) (.Call (.Name "zip" pp) [a, b, c] [] pos) (SI X.K F (iZip3 f g h)) := by
  refine pi_of fun S δ ds δ' σ H R Rs hf q => ⟨_, pi_zipK3 hg hm (pa_cons ha (pa_cons hb (pa_cons hc pa_nil nc) nb) hs) hs hpl, ?_⟩
  unfold iZip3 at hf
  obtain ⟨⟨d1, δ1⟩, h1, hf⟩ := Option.bind_eq_some_iff.mp hf
  obtain ⟨⟨d2, δ2⟩, h2, hf⟩ := Option.bind_eq_some_iff.mp hf
  obtain ⟨⟨d3, δ3⟩, h3, hf⟩ := Option.bind_eq_some_iff.mp hf
  obtain ⟨xs, g1, hf⟩ := Option.bind_eq_some_iff.mp hf
  obtain ⟨ys, g2, hf⟩ := Option.bind_eq_some_iff.mp hf
  obtain ⟨zs, g3, hf⟩ := Option.bind_eq_some_iff.mp hf
  cases hf
  refine ⟨S, δ, _, _, Rs, h1, fun v S1 H1 s1 R1 q1 => ⟨S1, _, _, _, R1, h2, fun w S2 H2 s2 R2 q2 => ⟨S2, _, _, _, R2, h3, fun u S3 H3 s3 R3 q3 => ?_⟩⟩⟩
  obtain ⟨k, p1, v1, rfl, d1, t1⟩ := sqk_of (K := X.K) g1 (dq_ext s3.s (dq_ext s2.s q1)) R3.sub
  obtain ⟨l, p2, v2, rfl, d2, t2⟩ := sqk_of (K := X.K) g2 (dq_ext s3.s q2) R3.sub
  obtain ⟨m, p3, v3, rfl, d3, t3⟩ := sqk_of (K := X.K) g3 q3 R3.sub
  have l1 := dqa_len d1
  have l2 := dqa_len d2
  have l3 := dqa_len d3
  refine ⟨k, l, m, p1, p2, p3, v1, v2, v3, rfl, t1 _ _ (fun _ _ z => z) R3.sub, t2 _ _ (fun _ _ z => z) R3.sub, t3 _ _ (fun _ _ z => z) R3.sub, q _ S3 H3 ((s1.trans s2).trans s3) R3 ⟨fun i S4 H4 x1 x2 hi => ?_, fun i S4 H4 x H5 d x1 x2 hy hd => ?_, fun i S4 H4 x1 x2 hi => ?_⟩⟩
  · rw [zip3D_len] at hi
    exact ⟨v1, v2, v3, v1[i]'(by omega), v2[i]'(by omega), v3[i]'(by omega), t1 _ _ x1 x2, t2 _ _ x1 x2, t3 _ _ x1 x2, List.getElem?_eq_getElem _, List.getElem?_eq_getElem _, List.getElem?_eq_getElem _⟩
  · obtain ⟨T, x, y, u, rfl, hT, rfl, k1, k2, k3⟩ := hy
    obtain ⟨dx, dy, du, z1, z2, z3, rfl⟩ := zip3D_get _ _ _ _ _ hd
    exact tri_new x2 hT (dq_ext x1 (dqa_at d1 z1 (k1 _ (t1 _ _ x1 x2)))) (dq_ext x1 (dqa_at d2 z2 (k2 _ (t2 _ _ x1 x2)))) (dq_ext x1 (dqa_at d3 z3 (k3 _ (t3 _ _ x1 x2))))
  · rw [zip3D_len] at hi
    exact ⟨v1, v2, v3, t1 _ _ x1 x2, t2 _ _ x1 x2, t3 _ _ x1 x2, by omega⟩
end
end Pd

/-! comprehensions with two fors. -/
namespace Pd
open PySem PySem.Spec PyProof.Rows L2
open Evl (Ex)
section
variable [TabSet]
variable {F : Fr}
/-- the inner walk, in one turn of the outer one -/
theorem lc2_inner {K : PySem.W.Frag} {gg : MG} {tf : MT} {f : M} {vs vs1 : List Nat} {Sb Hb : Hp} {σ : L2.St} {δb : DE} {Dl : Addr} (hbD : Hb Dl = none) (z1 : F.H0 Dl = none) (z2 : F.io ≠ some Dl) (nownD : ¬ Own σ δb Dl)
    {τ : L2.St} (cτ0 : ∀ j, j ∉ vs → τ[j]? = σ[j]?) (sub1 : ∀ i ∈ vs1, i ∈ vs) {J : It} {S1 H1 : Hp} {zs : List D} {δ3 δ4 : DE} {ys : List D} (hJ : Its J S1 zs) (R1 : RSt K F S1 H1 τ δ3) (no3 : ∀ (j : Nat) xs, δ3[j]? = some (.ow xs) → j ∉ vs)
    (s1 : Stp Sb Hb S1 H1 σ δb δ3) (hz : zs.length ≤ 100000) (hrun : cRun gg tf f vs1 zs (wipeD δ3 vs1) = some (ys, δ4))
    {acc0 : List V} {done0 : List D} (n1 : S1 Dl = none) (h1 : H1 Dl = some (.lst acc0)) (d0 : DqAll S1 acc0 done0) (lim : done0.length + ys.length ≤ 100000)
    {NX : Hp → Prop} (q : ∀ S' H' acc, RSt K F S' H' (wipe τ vs1) δ4 → Stp Sb Hb S' H' σ δb δ4 → (∀ (j : Nat) xs, δ4[j]? = some (.ow xs) → j ∉ vs) → S' Dl = none → H' Dl = some (.lst acc) → DqAll S' acc (done0 ++ ys) → NX H') :
    ∃ W1 : Nat → Nat → Hp → Prop, (∃ m, W1 0 m H1) ∧ ∀ (i m : Nat) (H : Hp), W1 i m H → J.stop i H ∧ NX H ∨ J.go i H ∧ ∃ Nx1 : Hp → Prop, (∀ H', Nx1 H' → ∃ m', m' < m ∧ W1 (i + 1) m' H') ∧ ∀ x H', J.yld i H x H' → SG K F vs1 gg x (wipe τ vs1) H' fun σ3 H5 => wipe σ3 vs1 = wipe τ vs1 ∧ ST K F tf σ3 H5 fun b H6 => if b = true then SE K F f σ3 H6 fun y H7 => ∃ acc, H7 Dl = some (.lst acc) ∧ acc.length < sizeLine ∧ Nx1 (upd H7 Dl (.lst (acc ++ [y]))) else Nx1 H6 := by
  refine ⟨fun i m H' => m = zs.length - i ∧ i ≤ zs.length ∧ ∃ S' δi acc done, RSt K F S' H' (wipe τ vs1) δi ∧ Stp Sb Hb S' H' σ δb δi ∧ Ex S1 S' ∧ (∀ (j : Nat) xs, δi[j]? = some (.ow xs) → j ∉ vs) ∧ S' Dl = none ∧ H' Dl = some (.lst acc) ∧ DqAll S' acc (done0 ++ done) ∧
    ∃ rest, cRun gg tf f vs1 (zs.drop i) δi = some (rest, δ4) ∧ done ++ rest = ys, ⟨zs.length, by omega, Nat.zero_le _, S1, wipeD δ3 vs1, acc0, [], ?_, ?_, Ex.refl _, ?_, n1, h1, by rw [List.append_nil]; exact d0, ys, hrun, rfl⟩, ?_⟩
  · exact R1.wipe (wipe_length τ vs1) (fun j hj => wipe_out hj) fun xs e hm => no3 _ xs e (sub1 _ hm)
  · refine ⟨s1.s, s1.out, s1.keep, s1.dom, fun i xs e => ?_, s1.tb⟩
    exact s1.kind i xs (wipe_ow e).2
  · intro j xs e
    exact no3 j xs (wipe_ow e).2
  · rintro i m H' ⟨rfl, hi, S', δi, acc, done, Ri, si, ei, noi, ni, hDi, da, rest, hr, hdone⟩
    have ownD : ∀ {ρ : L2.St} {δx : DE} {b : Addr}, (∀ j, j ∉ vs → ρ[j]? = σ[j]?) → (∀ (j : Nat) xs, δx[j]? = some (.ow xs) → (∃ ys, δi[j]? = some (.ow ys)) ∧ j ∉ vs) → Own ρ δx b → Own σ δb b := fun {ρ δx b} hρ hx o => by
      obtain ⟨j, xs, o1, o2⟩ := o
      obtain ⟨⟨ys, e1⟩, nj⟩ := hx j xs o1
      obtain ⟨ws, e2⟩ := si.kind j ys e1
      rw [hρ j nj] at o2
      exact ⟨j, ws, e2, o2⟩
    have cw : ∀ j, j ∉ vs → (wipe τ vs1)[j]? = σ[j]? := fun j hj => (wipe_out fun hm => hj (sub1 _ hm)).trans (cτ0 j hj)
    by_cases hlt : i < zs.length
    · refine .inr ⟨hJ.go i S' H' ei Ri.sub hlt, fun H'' => ∃ m', m' < zs.length - i ∧ (m' = zs.length - (i + 1) ∧ i + 1 ≤ zs.length ∧ ∃ S' δi acc done, RSt K F S' H'' (wipe τ vs1) δi ∧ Stp Sb Hb S' H'' σ δb δi ∧ Ex S1 S' ∧ (∀ (j : Nat) xs, δi[j]? = some (.ow xs) → j ∉ vs) ∧ S' Dl = none ∧ H'' Dl = some (.lst acc) ∧ DqAll S' acc (done0 ++ done) ∧
        ∃ rest, cRun gg tf f vs1 (zs.drop (i + 1)) δi = some (rest, δ4) ∧ done ++ rest = ys), fun H'' h => h, fun x H3 hy => ?_⟩
      obtain ⟨S3, g3, d3⟩ := hJ.yld i S' H' x H3 zs[i] ei Ri.sub hy (List.getElem?_eq_getElem hlt)
      rw [List.drop_eq_getElem_cons hlt] at hr
      simp only [cRun] at hr
      split at hr
      · rename_i δa ga
        have R3 := Ri.grow g3
        have h3 : H3 Dl = some (.lst acc) := g3.h Dl _ hDi nt_lst
        have n3 : S3 Dl = none := nt_none (g3.out Dl _ hDi) ni R3.sub h3 (by intro _ z; cases z)
        refine ⟨S3, δi, zs[i], δa, R3, d3, ga, fun ρ Rt lρ cρ oρ => ?_⟩
        rw [wipe_length] at lρ
        have cρ1 : ∀ j, j ∉ vs1 → ρ[j]? = τ[j]? := fun j hj => (cρ j hj).trans (wipe_out hj)
        have cρ' : ∀ j, j ∉ vs → ρ[j]? = σ[j]? := fun j hj => (cρ1 j fun hm => hj (sub1 _ hm)).trans (cτ0 j hj)
        have kA : ∀ (j : Nat) xs, δa[j]? = some (.ow xs) → (∃ ys, δi[j]? = some (.ow ys)) ∧ j ∉ vs := fun j xs e => ⟨⟨xs, (oρ j xs e).1⟩, noi j xs (oρ j xs e).1⟩
        have s13 : Stp Sb Hb S3 H3 σ δb δi := si.trans' (Stp.grow g3 (σ := wipe τ vs1) (δ := δi)) (fun b o => ownD cw (fun j xs e => ⟨⟨xs, e⟩, noi j xs e⟩) o) si.kind
        refine ⟨wipe_eq lρ cρ1, ?_⟩
        have nD : ∀ {δx : DE}, (∀ (j : Nat) xs, δx[j]? = some (.ow xs) → (∃ ys, δi[j]? = some (.ow ys)) ∧ j ∉ vs) → ¬ Own ρ δx Dl := fun hx o => nownD (ownD cρ' hx o)
        split at hr
        · rename_i δB tb
          refine ⟨S3, δa, true, δB, Rt, tb, fun S4 H4 s4 R4 => ?_⟩
          show ite (true = true) _ _
          rw [if_pos rfl]
          have kB : ∀ (j : Nat) xs, δB[j]? = some (.ow xs) → (∃ ys, δi[j]? = some (.ow ys)) ∧ j ∉ vs := fun j xs e => by
            obtain ⟨ys, e2⟩ := s4.kind j xs e
            exact kA j ys e2
          have h4 : H4 Dl = some (.lst acc) := s4.keep Dl _ h3 nt_lst (nD kA)
          have n4 : S4 Dl = none := nt_none (s4.out Dl _ h3) n3 R4.sub h4 (by intro _ z; cases z)
          have s14 : Stp Sb Hb S4 H4 σ δb δB := s13.trans' s4 (fun b o => ownD cρ' kA o) fun j xs e => by
            obtain ⟨⟨ys, e2⟩, _⟩ := kB j xs e
            exact si.kind j ys e2
          split at hr
          · rename_i y δc tc
            refine ⟨S4, δB, y, δc, R4, tc, fun v S5 H5 s5 R5 d5 => ?_⟩
            have kC : ∀ (j : Nat) xs, δc[j]? = some (.ow xs) → (∃ ys, δi[j]? = some (.ow ys)) ∧ j ∉ vs := fun j xs e => by
              obtain ⟨ys, e2⟩ := s5.kind j xs e
              exact kB j ys e2
            have h5 : H5 Dl = some (.lst acc) := s5.keep Dl _ h4 nt_lst (nD kB)
            have n5 : S5 Dl = none := nt_none (s5.out Dl _ h4) n4 R5.sub h5 (by intro _ z; cases z)
            have s15 : Stp Sb Hb S5 H5 σ δb δc := s14.trans' s5 (fun b o => ownD cρ' kB o) fun j xs e => by
              obtain ⟨⟨ys, e2⟩, _⟩ := kC j xs e
              exact si.kind j ys e2
            split at hr
            · rename_i ws δd tr
              cases hr
              have dacc : DqAll S5 acc (done0 ++ done) := dqa_ext (g3.s.trans (s4.s.trans s5.s)) da
              have lacc := dqa_len dacc
              have ll : (done0 ++ done).length < 100000 := by
                rw [← hdone] at lim
                simp only [List.length_append, List.length_cons] at lim ⊢
                omega
              refine ⟨acc, h5, Evl.sz_lt (by omega), zs.length - (i + 1), by omega, rfl, hlt, S5, wipeD δc vs1, acc ++ [v], done ++ [y], ?_, ?_, ei.trans (g3.s.trans (s4.s.trans s5.s)), ?_, n5, upd_same, by rw [← List.append_assoc]; exact dqa_app dacc (.cons d5 .nil), ws, tr, by rw [← hdone, List.append_assoc]; rfl⟩
              · exact (R5.free n5 h5 (nD kC) z1 z2).wipe (by rw [wipe_length, lρ]) (fun j hj => (wipe_out hj).trans (cρ1 j hj).symm) fun xs e hm => (kC _ xs e).2 (sub1 _ hm)
              · refine ⟨s15.s, s15.out, fun b o e nt n => ?_, fun b o e => ?_, fun j xs e => ?_, fun t => ⟨tabs_lst (s15.tb t).1 h5, (s15.tb t).2⟩⟩
                · rw [upd_ne (fun z => by rw [z, hbD] at e; cases e)]
                  exact s15.keep b o e nt n
                · rw [upd_ne (fun z => by rw [z, hbD] at e; cases e)]
                  exact s15.dom b o e
                · obtain ⟨_, e2⟩ := wipe_ow e
                  exact s15.kind j xs e2
              · exact fun j xs e => (kC j xs (wipe_ow e).2).2
            · cases hr
          · cases hr
        · rename_i δB tb
          refine ⟨S3, δa, false, δB, Rt, tb, fun S4 H4 s4 R4 => ?_⟩
          show ite (false = true) _ _
          rw [if_neg Bool.false_ne_true]
          have kB : ∀ (j : Nat) xs, δB[j]? = some (.ow xs) → (∃ ys, δi[j]? = some (.ow ys)) ∧ j ∉ vs := fun j xs e => by
            obtain ⟨ys, e2⟩ := s4.kind j xs e
            exact kA j ys e2
          have h4 : H4 Dl = some (.lst acc) := s4.keep Dl _ h3 nt_lst (nD kA)
          have n4 : S4 Dl = none := nt_none (s4.out Dl _ h3) n3 R4.sub h4 (by intro _ z; cases z)
          have s14 : Stp Sb Hb S4 H4 σ δb δB := s13.trans' s4 (fun b o => ownD cρ' kA o) fun j xs e => by
            obtain ⟨⟨ys, e2⟩, _⟩ := kB j xs e
            exact si.kind j ys e2
          refine ⟨zs.length - (i + 1), by omega, rfl, hlt, S4, wipeD δB vs1, acc, done, ?_, ?_, ei.trans (g3.s.trans s4.s), ?_, n4, h4, dqa_ext (g3.s.trans s4.s) da, rest, hr, hdone⟩
          · exact R4.wipe (by rw [wipe_length, lρ]) (fun j hj => (wipe_out hj).trans (cρ1 j hj).symm) fun xs e hm => (kB _ xs e).2 (sub1 _ hm)
          · refine ⟨s14.s, s14.out, s14.keep, s14.dom, fun j xs e => ?_, s14.tb⟩
            obtain ⟨_, e2⟩ := wipe_ow e
            exact s14.kind j xs e2
          · exact fun j xs e => (kB j xs (wipe_ow e).2).2
        · cases hr
      · cases hr
    · refine .inl ⟨hJ.stop i S' H' ei Ri.sub (by omega), ?_⟩
      rw [List.drop_eq_nil_of_le (by omega)] at hr
      cases hr
      rw [List.append_nil] at hdone
      subst hdone
      exact q S' H' acc Ri si noi ni hDi da
omit [TabSet] in
def cRun2 (g : MG) (tf : MT) (it1 : MA) (g1 : MG) (tf1 : MT) (f : M) (vs vs1 : List Nat) : List D → DE → Option (List D × DE)
  | [], δ => some ([], δ)
  | d :: ds, δ => match g d δ with
    | some δ1 => match tf δ1 with
      | some (true, δ2) => match it1 δ2 with
        | some (zs, δ3) => if noOwn vs δ3 = true ∧ zs.length ≤ 100000 then match cRun g1 tf1 f vs1 zs (wipeD δ3 vs1) with
            | some (ys, δ4) => match cRun2 g tf it1 g1 tf1 f vs vs1 ds (wipeD δ4 vs) with
              | some (rest, δ5) => some (ys ++ rest, δ5)
              | none => none
            | none => none
          else none
        | none => none
      | some (false, δ2) => cRun2 g tf it1 g1 tf1 f vs vs1 ds (wipeD δ2 vs)
      | none => none
    | none => none
omit [TabSet] in
def lComp2 (it : MA) (g : MG) (tf : MT) (it1 : MA) (g1 : MG) (tf1 : MT) (f : M) (vs vs1 : List Nat) : MA := fun δ => match it δ with
  | some (ds, δ1) => if noOwn vs δ1 = true ∧ ds.length ≤ 100000 then match cRun2 g tf it1 g1 tf1 f vs vs1 ds (wipeD δ1 vs) with
      | some (ys, δ2) => if ys.length ≤ 100000 then some (ys, mergeD δ1 δ2 vs) else none
      | none => none
    else none
  | none => none
/-- the reading of a comprehension with two fors -/
theorem lc2_read {K : PySem.W.Frag} {it it1 : MA} {gg g1 : MG} {tf tf1 : MT} {f : M} {vs vs0 vs1 : List Nat} {S : Hp} {δ δ' : DE} {ds : List D} {σ : L2.St} {H : Hp} {Q : VK} (sub0 : ∀ i ∈ vs0, i ∈ vs) (sub1 : ∀ i ∈ vs1, i ∈ vs) (R : RSt K F S H σ δ) (hf : lComp2 it gg tf it1 g1 tf1 f vs vs1 δ = some (ds, δ'))
    (q : ∀ a us S' H', Stp S H S' H' σ δ δ' → RSt K F S' H' σ δ' → H a = none → S' a = none → H' a = some (.lst us) → DqAll S' us ds → Q (.ref a) H') : tLc2 (SI K F it) (SG K F vs0 gg) (ST K F tf) (SI K F it1) (SG K F vs1 g1) (ST K F tf1) (SE K F f) vs vs1 σ H Q := by
  unfold lComp2 at hf
  cases h1 : it δ with
  | none => rw [h1] at hf; cases hf
  | some p =>
    obtain ⟨zs, δ1⟩ := p
    rw [h1] at hf
    simp only at hf
    split at hf
    · rename_i hno
      obtain ⟨hno, hz⟩ := hno
      split at hf
      · rename_i ys δ2 hrun
        split at hf
        · rename_i hlim
          cases hf
          refine ⟨S, δ, zs, δ1, R, h1, fun J S1 H1 s1 R1 hJ => fun Dl hD => ?_⟩
          obtain ⟨R1', s1', n1⟩ := lay_fresh (o := .lst []) R1 hD
          have hH : H Dl = none := by
            cases hz : H Dl with
            | none => rfl
            | some o =>
              obtain ⟨o', q'⟩ := s1.dom Dl o hz
              rw [hD] at q'; cases q'
          obtain ⟨z1, z2⟩ := R1.frz hD
          have nownD : ¬ Own σ δ1 Dl := fun o => by
            obtain ⟨us, q', _⟩ := R1.own_in o
            rw [hD] at q'; cases q'
          refine ⟨fun i m H' => m = zs.length - i ∧ i ≤ zs.length ∧ ∃ S' δi acc done, RSt K F S' H' (wipe σ vs) δi ∧ Stp S1 H1 S' H' σ δ1 δi ∧ (∀ (j : Nat) xs, δi[j]? = some (.ow xs) → j ∉ vs) ∧ S' Dl = none ∧ H' Dl = some (.lst acc) ∧ DqAll S' acc done ∧
            ∃ rest, cRun2 gg tf it1 g1 tf1 f vs vs1 (zs.drop i) δi = some (rest, δ2) ∧ done ++ rest = ds, ⟨zs.length, by omega, Nat.zero_le _, S1, wipeD δ1 vs, [], [], ?_, ?_, ?_, n1, upd_same, .nil, ds, hrun, rfl⟩, ?_⟩
          · exact R1'.wipe (wipe_length σ vs) (fun j hj => wipe_out hj) fun xs e => noOwn_of hno e
          · refine ⟨s1'.s, s1'.out, s1'.keep, s1'.dom, fun i xs e => ⟨xs, (wipe_ow e).2⟩, s1'.tb⟩
          · exact fun j xs e => (wipe_ow e).1
          · rintro i m H' ⟨rfl, hi, S', δi, acc, done, Ri, si, noi, ni, hDi, da, rest, hr, hdone⟩
            have ownD : ∀ {τ : L2.St} {δx : DE} {b : Addr}, (∀ j, j ∉ vs → τ[j]? = σ[j]?) → (∀ (j : Nat) xs, δx[j]? = some (.ow xs) → (∃ ys, δi[j]? = some (.ow ys)) ∧ j ∉ vs) → Own τ δx b → Own σ δ1 b := fun {τ δx b} hτ hx o => by
              obtain ⟨j, xs, o1, o2⟩ := o
              obtain ⟨⟨ys, e1⟩, nj⟩ := hx j xs o1
              obtain ⟨ws, e2⟩ := si.kind j ys e1
              rw [hτ j nj] at o2
              exact ⟨j, ws, e2, o2⟩
            by_cases hlt : i < zs.length
            · refine .inr ⟨hJ.go i S' H' si.s Ri.sub hlt, fun H'' => ∃ m', m' < zs.length - i ∧ (m' = zs.length - (i + 1) ∧ i + 1 ≤ zs.length ∧ ∃ S' δi acc done, RSt K F S' H'' (wipe σ vs) δi ∧ Stp S1 H1 S' H'' σ δ1 δi ∧ (∀ (j : Nat) xs, δi[j]? = some (.ow xs) → j ∉ vs) ∧ S' Dl = none ∧ H'' Dl = some (.lst acc) ∧ DqAll S' acc done ∧
                ∃ rest, cRun2 gg tf it1 g1 tf1 f vs vs1 (zs.drop (i + 1)) δi = some (rest, δ2) ∧ done ++ rest = ds), fun H'' h => h, fun x H3 hy => ?_⟩
              obtain ⟨S3, g3, d3⟩ := hJ.yld i S' H' x H3 zs[i] si.s Ri.sub hy (List.getElem?_eq_getElem hlt)
              rw [List.drop_eq_getElem_cons hlt] at hr
              simp only [cRun2] at hr
              split at hr
              · rename_i δa ga
                have R3 := Ri.grow g3
                have h3 : H3 Dl = some (.lst acc) := g3.h Dl _ hDi nt_lst
                have n3 : S3 Dl = none := nt_none (g3.out Dl _ hDi) ni R3.sub h3 (by intro _ z; cases z)
                refine ⟨S3, δi, zs[i], δa, R3, d3, ga, fun τ Rt lτ cτ oτ => ?_⟩
                rw [wipe_length] at lτ
                have cτ' : ∀ j, j ∉ vs → τ[j]? = σ[j]? := fun j hj => (cτ j fun hm => hj (sub0 _ hm)).trans (wipe_out hj)
                have kA : ∀ (j : Nat) xs, δa[j]? = some (.ow xs) → (∃ ys, δi[j]? = some (.ow ys)) ∧ j ∉ vs := fun j xs e => ⟨⟨xs, (oτ j xs e).1⟩, noi j xs (oτ j xs e).1⟩
                have s13 : Stp S1 H1 S3 H3 σ δ1 δi := si.trans' (Stp.grow g3 (σ := wipe σ vs) (δ := δi)) (fun b o => ownD (fun j hj => wipe_out hj) (fun j xs e => ⟨⟨xs, e⟩, noi j xs e⟩) o) si.kind
                refine ⟨wipe_eq lτ cτ', ?_⟩
                have nD : ∀ {δx : DE}, (∀ (j : Nat) xs, δx[j]? = some (.ow xs) → (∃ ys, δi[j]? = some (.ow ys)) ∧ j ∉ vs) → ¬ Own τ δx Dl := fun hx o => nownD (ownD cτ' hx o)
                split at hr
                · rename_i δb tb
                  refine ⟨S3, δa, true, δb, Rt, tb, fun S4 H4 s4 R4 => ?_⟩
                  show ite (true = true) _ _
                  rw [if_pos rfl]
                  have kB : ∀ (j : Nat) xs, δb[j]? = some (.ow xs) → (∃ ys, δi[j]? = some (.ow ys)) ∧ j ∉ vs := fun j xs e => by
                    obtain ⟨ys, e2⟩ := s4.kind j xs e
                    exact kA j ys e2
                  have h4 : H4 Dl = some (.lst acc) := s4.keep Dl _ h3 nt_lst (nD kA)
                  have n4 : S4 Dl = none := nt_none (s4.out Dl _ h3) n3 R4.sub h4 (by intro _ z; cases z)
                  have s14 : Stp S1 H1 S4 H4 σ δ1 δb := s13.trans' s4 (fun b o => ownD cτ' kA o) fun j xs e => by
                    obtain ⟨⟨ys, e2⟩, _⟩ := kB j xs e
                    exact si.kind j ys e2
                  split at hr
                  · rename_i ws δ3 ti
                    split at hr
                    · rename_i hin
                      obtain ⟨hno3, hzw⟩ := hin
                      split at hr
                      · rename_i us δ4 hinner
                        split at hr
                        · rename_i rs δ5 hrest
                          cases hr
                          refine ⟨S4, δb, ws, δ3, R4, ti, fun J1 S5 H5 s5 R5 hJ1 => ?_⟩
                          have kC : ∀ (j : Nat) xs, δ3[j]? = some (.ow xs) → (∃ ys, δi[j]? = some (.ow ys)) ∧ j ∉ vs := fun j xs e => by
                            obtain ⟨ys, e2⟩ := s5.kind j xs e
                            exact kB j ys e2
                          have h5 : H5 Dl = some (.lst acc) := s5.keep Dl _ h4 nt_lst (nD kB)
                          have n5 : S5 Dl = none := nt_none (s5.out Dl _ h4) n4 R5.sub h5 (by intro _ z; cases z)
                          have s15 : Stp S1 H1 S5 H5 σ δ1 δ3 := s14.trans' s5 (fun b o => ownD cτ' kB o) fun j xs e => by
                            obtain ⟨⟨ys, e2⟩, _⟩ := kC j xs e
                            exact si.kind j ys e2
                          refine lc2_inner hD z1 z2 nownD cτ' sub1 hJ1 R5 (fun j xs e => (kC j xs e).2) s15 hzw hinner n5 h5 (dqa_ext (g3.s.trans (s4.s.trans s5.s)) da) (by rw [← hdone] at hlim; simp only [List.length_append] at hlim; omega) fun S6 H6 acc6 R6 s6 no6 n6 h6 d6 => ?_
                          refine ⟨zs.length - (i + 1), by omega, rfl, hlt, S6, wipeD δ4 vs, acc6, done ++ us, ?_, ?_, ?_, n6, h6, d6, rs, hrest, by rw [← hdone, List.append_assoc]⟩
                          · exact R6.wipe (by rw [wipe_length, wipe_length, lτ]) (fun j hj => (wipe_out hj).trans ((cτ' j hj).symm.trans (wipe_out fun hm => hj (sub1 _ hm)).symm)) fun xs e => no6 _ xs e
                          · refine ⟨s6.s, s6.out, s6.keep, s6.dom, fun j xs e => ?_, s6.tb⟩
                            exact s6.kind j xs (wipe_ow e).2
                          · exact fun j xs e => (wipe_ow e).1
                        · cases hr
                      · cases hr
                    · cases hr
                  · cases hr
                · rename_i δb tb
                  refine ⟨S3, δa, false, δb, Rt, tb, fun S4 H4 s4 R4 => ?_⟩
                  show ite (false = true) _ _
                  rw [if_neg Bool.false_ne_true]
                  have kB : ∀ (j : Nat) xs, δb[j]? = some (.ow xs) → (∃ ys, δi[j]? = some (.ow ys)) ∧ j ∉ vs := fun j xs e => by
                    obtain ⟨ys, e2⟩ := s4.kind j xs e
                    exact kA j ys e2
                  have h4 : H4 Dl = some (.lst acc) := s4.keep Dl _ h3 nt_lst (nD kA)
                  have n4 : S4 Dl = none := nt_none (s4.out Dl _ h3) n3 R4.sub h4 (by intro _ z; cases z)
                  have s14 : Stp S1 H1 S4 H4 σ δ1 δb := s13.trans' s4 (fun b o => ownD cτ' kA o) fun j xs e => by
                    obtain ⟨⟨ys, e2⟩, _⟩ := kB j xs e
                    exact si.kind j ys e2
                  refine ⟨zs.length - (i + 1), by omega, rfl, hlt, S4, wipeD δb vs, acc, done, ?_, ?_, ?_, n4, h4, dqa_ext (g3.s.trans s4.s) da, rest, hr, hdone⟩
                  · exact R4.wipe (by rw [wipe_length, lτ]) (fun j hj => (wipe_out hj).trans (cτ' j hj).symm) fun xs e => (kB 0 xs e).2
                  · refine ⟨s14.s, s14.out, s14.keep, s14.dom, fun j xs e => ?_, s14.tb⟩
                    obtain ⟨_, e2⟩ := wipe_ow e
                    exact s14.kind j xs e2
                  · exact fun j xs e => (wipe_ow e).1
                · cases hr
              · cases hr
            · refine .inl ⟨hJ.stop i S' H' si.s Ri.sub (by omega), ?_⟩
              rw [List.drop_eq_nil_of_le (by omega)] at hr
              cases hr
              rw [List.append_nil] at hdone
              subst hdone
              have hl1 : δ2.length = δ1.length := by
                rw [← Ri.len, wipe_length, R1.len]
              have look : ∀ (j : Nat) s, (mergeD δ1 δ2 vs)[j]? = some s → (j ∈ vs ∧ δ1[j]? = some s) ∨ (j ∉ vs ∧ δ2[j]? = some s) := fun j s e => by
                have hlt : j < δ2.length := by
                  have := (List.getElem?_eq_some_iff.mp e).1
                  rwa [mergeD_len] at this
                by_cases hj : j ∈ vs
                · rw [mergeD_in hlt (by omega) hj] at e
                  exact .inl ⟨hj, e⟩
                · rw [mergeD_out hj] at e
                  exact .inr ⟨hj, e⟩
              refine q Dl acc S' H' ?_ ?_ hH ni hDi da
              · have sm : Stp S1 H1 S' H' σ δ1 (mergeD δ1 δ2 vs) := ⟨si.s, si.out, si.keep, si.dom, fun j xs e => by
                  rcases look j _ e with ⟨hj, e2⟩ | ⟨hj, e2⟩
                  · exact ⟨xs, e2⟩
                  · exact si.kind j xs e2, si.tb⟩
                exact s1.trans sm
              · refine ⟨Ri.sub, Ri.base, Ri.dom0, Ri.tb0, Ri.s0, Ri.out, Ri.iop, by rw [mergeD_len, hl1, R1.len], fun j x s e1 e2 => ?_, fun j k a xs ys e1 e2 e3 e4 => ?_, fun a e => ?_⟩
                · rcases look j s e2 with ⟨hj, e3⟩ | ⟨hj, e3⟩
                  · have q1 := R1.slot j x s e1 e3
                    cases s with
                    | no => trivial
                    | sh d =>
                      obtain ⟨v, w1, w2⟩ := q1
                      exact ⟨v, w1, dq_ext si.s w2⟩
                    | scr ns =>
                      obtain ⟨b, w1, w2⟩ := q1
                      exact ⟨b, w1, Evl.ex_l si.s w2⟩
                    | ow xs => exact absurd hj (noOwn_of hno e3)
                  · exact Ri.slot j x s (by rw [wipe_out hj]; exact e1) e3
                · rcases look j _ e1 with ⟨hj, z⟩ | ⟨hj, f1⟩
                  · exact absurd hj (noOwn_of hno z)
                  · rcases look k _ e2 with ⟨hk, z⟩ | ⟨hk, f2⟩
                    · exact absurd hk (noOwn_of hno z)
                    · exact Ri.sep j k a xs ys f1 f2 (by rw [wipe_out hj]; exact e3) (by rw [wipe_out hk]; exact e4)
                · obtain ⟨p1, xs, p2⟩ := Ri.pin a e
                  have n0 := noi 0 xs p2
                  rw [wipe_out n0] at p1
                  exact ⟨p1, xs, by rw [mergeD_out n0]; exact p2⟩
        · cases hf
      · cases hf
    · cases hf
variable {X : Cx} {tg tg1 e : Expr} {pos : Pos} {x : Str} {W : WX} {f : M} {tf tf1 : MT}
/-- [.. for .. for ..] -/
theorem e_lc2 {own : List (Str × Nat)} {vs0 vs1 : List Nat} {it it1 : MA} {gg g1 : MG} {elt iter iter1 : Expr} {ifs ifs1 : List Expr} {scope : Scope} (hc : X.calm = true) (hN : X.N.Nodup) (hi : PI X tg iter (SI X.K F it)) (ok : BlkOk X.N X.env.scope scope own) (sub0 : ∀ i ∈ vs0, i ∈ own.map (·.2)) (sub : ∀ i ∈ vs1, i ∈ own.map (·.2))
    (hg : ∀ (s : Shared) (H : Hp) (C : Addr) (cl : List (Str × Addr)) (fp : List Addr), PG (X.blk s H scope (compEnvC scope cl C X.env) fp) tg (SG X.K F vs0 gg)) (ht : ∀ (s : Shared) (H : Hp) (C : Addr) (cl : List (Str × Addr)) (fp : List Addr), PTs (X.blk s H scope (compEnvC scope cl C X.env) fp) ifs (ST X.K F tf))
    (hi1 : ∀ (s : Shared) (H : Hp) (C : Addr) (cl : List (Str × Addr)) (fp : List Addr), PI (X.blk s H scope (compEnvC scope cl C X.env) fp) tg1 iter1 (SI X.K F it1))
    (hg1 : ∀ (s : Shared) (H : Hp) (C : Addr) (cl : List (Str × Addr)) (fp : List Addr), PG (X.blk s H scope (compEnvC scope cl C X.env) fp) tg1 (SG X.K F vs1 g1)) (ht1 : ∀ (s : Shared) (H : Hp) (C : Addr) (cl : List (Str × Addr)) (fp : List Addr), PTs (X.blk s H scope (compEnvC scope cl C X.env) fp) ifs1 (ST X.K F tf1))
    (he : ∀ (s : Shared) (H : Hp) (C : Addr) (cl : List (Str × Addr)) (fp : List Addr), PE (X.blk s H scope (compEnvC scope cl C X.env) fp) elt (SE X.K F f)) (hs : ∀ x, foldedSetIterable iter X.env x = pure x := by intro _; rfl) (hs1 : ∀ (env : Env) x, foldedSetIterable iter1 env x = pure x := by intro _ _; rfl) :
    PE X (.ListComp elt [⟨tg, iter, ifs, 0⟩, ⟨tg1, iter1, ifs1, 0⟩] scope pos) (SF X.K F (lComp2 it gg tf it1 g1 tf1 f (own.map (·.2)) vs1)) :=
  pf_of fun S δ d δ' σ H Q R hf q => ⟨_, pe_lc2 hc hN hi ok sub hg ht hi1 hg1 ht1 he hs hs1, lc2_read sub0 sub R hf q⟩
/-- name = [.. for .. for ..] -/
theorem s_lc2 {i : Nat} {py : Pos} {own : List (Str × Nat)} {vs0 vs1 : List Nat} {it it1 : MA} {gg g1 : MG} {elt iter iter1 : Expr} {ifs ifs1 : List Expr} {scope : Scope} {spos : Pos} (hc : X.calm = true) (hN : X.N.Nodup) (hi : PI X tg iter (SI X.K F it)) (ok : BlkOk X.N X.env.scope scope own) (sub0 : ∀ i ∈ vs0, i ∈ own.map (·.2)) (sub : ∀ i ∈ vs1, i ∈ own.map (·.2))
    (hg : ∀ (s : Shared) (H : Hp) (C : Addr) (cl : List (Str × Addr)) (fp : List Addr), PG (X.blk s H scope (compEnvC scope cl C X.env) fp) tg (SG X.K F vs0 gg)) (ht : ∀ (s : Shared) (H : Hp) (C : Addr) (cl : List (Str × Addr)) (fp : List Addr), PTs (X.blk s H scope (compEnvC scope cl C X.env) fp) ifs (ST X.K F tf))
    (hi1 : ∀ (s : Shared) (H : Hp) (C : Addr) (cl : List (Str × Addr)) (fp : List Addr), PI (X.blk s H scope (compEnvC scope cl C X.env) fp) tg1 iter1 (SI X.K F it1))
    (hg1 : ∀ (s : Shared) (H : Hp) (C : Addr) (cl : List (Str × Addr)) (fp : List Addr), PG (X.blk s H scope (compEnvC scope cl C X.env) fp) tg1 (SG X.K F vs1 g1)) (ht1 : ∀ (s : Shared) (H : Hp) (C : Addr) (cl : List (Str × Addr)) (fp : List Addr), PTs (X.blk s H scope (compEnvC scope cl C X.env) fp) ifs1 (ST X.K F tf1))
    (he : ∀ (s : Shared) (H : Hp) (C : Addr) (cl : List (Str × Addr)) (fp : List Addr), PE (X.blk s H scope (compEnvC scope cl C X.env) fp) elt (SE X.K F f)) (hy : X.N[i]? = some x := by rfl) (hyl : X.env.scope.names.lookup x = some .local := by rfl)
    (hsw : swapsWith (.ListComp elt [⟨tg, iter, ifs, 0⟩, ⟨tg1, iter1, ifs1, 0⟩] scope pos) (some (.Name x py)) spos.line X.env = pure true := by exact sw_true rfl rfl rfl (by decide +kernel)) (hs : ∀ x, foldedSetIterable iter X.env x = pure x := by intro _; rfl) (hs1 : ∀ (env : Env) x, foldedSetIterable iter1 env x = pure x := by intro _ _; rfl) :
    PS X (.Assign [.Name x py] (.ListComp elt [⟨tg, iter, ifs, 0⟩, ⟨tg1, iter1, ifs1, 0⟩] scope pos) spos) (SS X.K X.mg F W (sSet i (fList (lComp2 it gg tf it1 g1 tf1 f (own.map (·.2)) vs1)))) :=
  ps_of (ps_setLc2 hc hN hy hyl hsw hi ok sub hg ht hi1 hg1 ht1 he hs hs1) fun Z σ H hw => by
    obtain ⟨S, δ, o, R, hf, q⟩ := hw
    unfold sSet fList at hf
    cases h1 : lComp2 it gg tf it1 g1 tf1 f (own.map (·.2)) vs1 δ with
    | none => rw [h1] at hf; cases hf
    | some p =>
      obtain ⟨ds, δ1⟩ := p
      rw [h1] at hf
      simp only at hf
      split at hf
      · rename_i h0
        cases hf
        refine lc2_read sub0 sub R h1 fun a us S1 H1 s1 R1 n0 n1 e1 d1 => ?_
        obtain ⟨R2, s2⟩ := share_fresh R s1 R1 n0 n1 e1
        exact q _ _ H1 s2.s (R2.set_sh (.lst upd_same (dqa_ext (Ex.new n1) d1)) i (free0_of h0))
      · cases hf
end
/-! ### wishes -/
section
variable {it it1 : MA} {g g1 : MG} {tf tf1 : MT} {f : M} {vs vs1 : List Nat} {δ : DE} {QA : List D × DE → Prop}
/-- what one item of the outer walk gives -/
def item2 (it1 : MA) (g1 : MG) (tf1 : MT) (f : M) (vs vs1 : List Nat) (N : List D → DE → Prop) (p : Bool × DE) : Prop :=
  (p.1 = true → Wp (it1 p.2) fun z => (noOwn vs z.2 = true ∧ z.1.length ≤ 100000) ∧ Wp (cRun g1 tf1 f vs1 z.1 (wipeD z.2 vs1)) fun y => N y.1 (wipeD y.2 vs)) ∧ (p.1 = false → N [] (wipeD p.2 vs))
@[simp] theorem wp_lComp2 : Wp (lComp2 it g tf it1 g1 tf1 f vs vs1 δ) QA ↔ Wp (it δ) fun p => (noOwn vs p.2 = true ∧ p.1.length ≤ 100000) ∧ Wp (cRun2 g tf it1 g1 tf1 f vs vs1 p.1 (wipeD p.2 vs)) fun q => q.1.length ≤ 100000 ∧ QA (q.1, mergeD p.2 q.2 vs) := by
  unfold lComp2
  rcases it δ with _ | ⟨ds, δ1⟩ <;> simp
  intro _ _
  rcases cRun2 g tf it1 g1 tf1 f vs vs1 ds (wipeD δ1 vs) with _ | ⟨ys, δ2⟩ <;> simp
theorem wp_cRun2Nil : Wp (cRun2 g tf it1 g1 tf1 f vs vs1 [] δ) QA ↔ QA ([], δ) := by simp [cRun2]
theorem wp_cRun2Cons {d : D} {ds : List D} : Wp (cRun2 g tf it1 g1 tf1 f vs vs1 (d :: ds) δ) QA ↔ Wp (g d δ) fun δ1 => Wp (tf δ1) (item2 it1 g1 tf1 f vs vs1 fun ys δ2 => Wp (cRun2 g tf it1 g1 tf1 f vs vs1 ds δ2) fun r => QA (ys ++ r.1, r.2)) := by
  simp only [cRun2]
  rcases g d δ with _ | δ1 <;> simp
  rcases tf δ1 with _ | ⟨b, δ2⟩ <;> simp
  cases b
  · simp [item2]
  · simp [item2]
    rcases it1 δ2 with _ | ⟨zs, δ3⟩ <;> simp
    intro _ _
    rcases cRun g1 tf1 f vs1 zs (wipeD δ3 vs1) with _ | ⟨ys, δ4⟩ <;> simp
    rcases cRun2 g tf it1 g1 tf1 f vs vs1 ds (wipeD δ4 vs) with _ | ⟨rest, δ5⟩ <;> simp
/-- each item gives some, and leaves nothing behind -/
theorem wp_cRun2 {α : Type} (en : α → D) (o : α → List D) : ∀ {ds : List D} (xs : List α) {QA : List D × DE → Prop}, ds = xs.map en →
    (∀ x ∈ xs, Wp (g (en x) δ) fun δ1 => Wp (tf δ1) (item2 it1 g1 tf1 f vs vs1 fun ys δ2 => ys = o x ∧ δ2 = δ)) → QA ((xs.map o).flatten, δ) → Wp (cRun2 g tf it1 g1 tf1 f vs vs1 ds δ) QA
  | _, [], QA, rfl, _, he => by
    rw [List.map_nil, wp_cRun2Nil]
    exact he
  | _, x :: xs, QA, rfl, hs, he => by
    rw [List.map_cons, wp_cRun2Cons]
    refine (hs x (List.mem_cons_self ..)).mono fun δ1 h => h.mono fun p hp => ⟨fun hb => (hp.1 hb).mono fun z hz => ⟨hz.1, hz.2.mono fun y hy => ?_⟩, fun hb => ?_⟩
    · obtain ⟨e1, e2⟩ := hy
      rw [e2, e1]
      exact wp_cRun2 en o xs rfl (fun x' hx' => hs x' (List.mem_cons_of_mem _ hx')) (by simpa using he)
    · obtain ⟨e1, e2⟩ := hp.2 hb
      rw [e2, e1]
      exact wp_cRun2 en o xs rfl (fun x' hx' => hs x' (List.mem_cons_of_mem _ hx')) (by simpa using he)
end
end Pd

/-! dict([(k, v), ..]) and {k: v for ..}: whole numbers or texts as keys. -/
namespace Pd
open PySem PySem.Spec PyProof.Rows L2
open Evl (Ex)
def pairsK : List D → Option (List (Key × D))
  | [] => some []
  | .tuple [k, v] :: r => match keyOf k with
    | some kk => (pairsK r).map fun l => (kk, v) :: l
    | none => none
  | _ => none
def mrgT (kk l : List (Key × D)) : List (Key × D) := l.foldl (fun acc p => putT acc p.1 p.2) kk
def oDict (f : M) : MO' := fun δ => match f δ with
  | some (.list ds, δ1) => (pairsK ds).map fun l => (.dct (kD (mrgT [] l)), δ1)
  | _ => none
theorem put_kv {S : Hp} {kws : List (Key × V)} {kk : List (Key × D)} (h : KvOk S kws kk) (k : Key) {v : V} {d : D} (hd : Dq S v d) : KvOk S (putK kws k v) (putT kk k d) := by
  have ea : (kws.any fun kv => decide (kv.1 = k)) = (kk.any fun p => decide (p.1 = k)) := by
    have := congrArg (fun l : List Key => l.any fun x => decide (x = k)) h.1
    rw [List.any_map, List.any_map] at this
    exact this
  unfold putK putT
  rw [ea]
  split
  · obtain ⟨i1, i2, _⟩ := put_map (enc := keyD) eqv_keyD k hd h.1 h.2
    exact ⟨i1, i2⟩
  · refine ⟨by simp [h.1], ?_⟩
    rw [List.map_append, List.map_append]
    exact dqa_app h.2 (.cons hd .nil)
theorem merge_kv {S : Hp} : ∀ {wl : List (Key × V)} {dl : List (Key × D)} {kws : List (Key × V)} {kk : List (Key × D)}, KvOk S kws kk → wl.map (·.1) = dl.map (·.1) → DqAll S (wl.map (·.2)) (dl.map (·.2)) → KvOk S (mergeK kws wl) (mrgT kk dl)
  | [], [], _, _, h, _, _ => h
  | [], _ :: _, _, _, _, e, _ => by simp at e
  | _ :: _, [], _, _, _, e, _ => by simp at e
  | (a, v) :: wl, (b, d) :: dl, kws, kk, h, e, q => by
    simp only [List.map_cons, List.cons.injEq] at e
    obtain ⟨rfl, e⟩ := e
    simp only [List.map_cons] at q
    cases q with
    | cons q1 q2 => exact merge_kv (wl := wl) (dl := dl) (kws := putK kws a v) (kk := putT kk a d) (put_kv h a q1) e q2
section
variable [TabSet]
theorem pairs_of {K : PySem.W.Frag} {S H : Hp} (sub : Ex S H) : ∀ {vs : List V} {ds : List D} {l : List (Key × D)}, DqAll S vs ds → pairsK ds = some l → ∃ (ps : List Addr) (wl : List (Key × V)), vs = ps.map V.ref ∧ Paired (fun p kv => SqT K H p [kV kv.1, kv.2]) ps wl ∧ wl.map (·.1) = l.map (·.1) ∧ DqAll S (wl.map (·.2)) (l.map (·.2))
  | _, [], l, .nil, h => by
    cases h
    exact ⟨[], [], rfl, .nil, rfl, .nil⟩
  | _, d :: ds, l, .cons h1 h2, h => by
    unfold pairsK at h
    split at h
    · rename_i e
      cases e
    · rename_i k v r e
      cases e
      split at h
      · rename_i kk hk
        obtain ⟨l', e', rfl⟩ := Option.map_eq_some_iff.mp h
        obtain ⟨ps, wl, rfl, hp, hf, hs⟩ := pairs_of sub h2 e'
        obtain ⟨b, us, rfl, hb, hu⟩ := dq_tup h1
        obtain rfl := keyOf_eq hk
        cases hu with
        | cons u1 u2 =>
          cases u2 with
          | cons u2 u3 =>
            cases u3
            obtain rfl := dq_key u1
            rename_i y
            exact ⟨b :: ps, (kk, y) :: wl, rfl, .cons (SqT.of (sub _ _ hb)) hp, by simp [hf], .cons u2 hs⟩
      · cases h
    · cases h
variable {X : Cx} {F : Fr} {e a b c tg : Expr} {pos p : Pos} {f g h fk fv : M} {tf : MT} {x : Str}
theorem o_dict {pp : Pos} (hc : X.calm = true) (hg : Gl X "dict" := by rfl) (hm : X.mg "dict" = none) (ha : PE X a (SE X.K F f)) (he : starEach (a :: []) X.env = (false, eval a X.env) :: starEach [] X.env := by rfl) (hpl : (backTo pos (starEach [] X.env)).any (·.1) = false := by rfl) :
    PE X (.Call (.Name "dict" pp) [a] [] pos) (SFO X.K F (oDict f)) := by
  refine pfo_of fun S δ ob δ' σ H Q R hf q => ⟨_, pe_callTy (call_dictP hc) hg hm (by decide +kernel) (pa_cons ha pa_nil he) (he := he) (hpl := hpl), ?_⟩
  unfold oDict at hf
  split at hf
  · rename_i ds δ1 h1
    obtain ⟨l, e1, e2⟩ := Option.map_eq_some_iff.mp hf
    cases e2
    refine ⟨S, δ, _, _, R, h1, fun v S1 H1 s1 R1 d1 => ?_⟩
    obtain ⟨p1, vs, rfl, ep, dv⟩ := dq_list d1
    obtain ⟨ps, wl, rfl, hp, hf1, hs1⟩ := pairs_of (K := X.K) R1.sub dv e1
    refine ⟨p1, ps, wl, rfl, SqL.of (R1.sub _ _ ep), hp, fun p hpn => ?_⟩
    obtain ⟨R2, s2, n2⟩ := lay_fresh (o := .dK (mergeK [] wl)) R1 hpn
    have hH : H p = none := by
      cases hz : H p with
      | none => rfl
      | some o =>
        obtain ⟨o', q'⟩ := s1.dom p o hz
        rw [hpn] at q'; cases q'
    exact q p _ S1 _ (s1.trans s2) R2 hH n2 upd_same (.inl ⟨_, _, rfl, rfl, merge_kv (kws := []) (kk := []) ⟨rfl, .nil⟩ hf1 hs1⟩)
  · cases hf
omit [TabSet] in
def cRunD (g : MG) (tf : MT) (fk fv : M) (vs : List Nat) : List (Key × D) → List D → DE → Option (List (Key × D) × DE)
  | acc, [], δ => some (acc, δ)
  | acc, d :: ds, δ => match g d δ with
    | some δ1 => match tf δ1 with
      | some (true, δ2) => match fk δ2 with
        | some (k, δ3) => match fv δ3 with
          | some (v, δ4) => match keyOf k with
            | some kk => cRunD g tf fk fv vs (putT acc kk v) ds (wipeD δ4 vs)
            | none => none
          | none => none
        | none => none
      | some (false, δ2) => cRunD g tf fk fv vs acc ds (wipeD δ2 vs)
      | none => none
    | none => none
omit [TabSet] in
def oComp (it : MA) (g : MG) (tf : MT) (fk fv : M) (vs : List Nat) : MO' := fun δ => match it δ with
  | some (ds, δ1) => if noOwn vs δ1 = true ∧ ds.length ≤ 100000 then match cRunD g tf fk fv vs [] ds (wipeD δ1 vs) with
      | some (kk, δ2) => some (.dct (kD kk), mergeD δ1 δ2 vs)
      | none => none
    else none
  | none => none
theorem tabs_dk {T : List (Addr × Str)} {S H : Hp} {a : Addr} {ks ls : List (Key × V)} {kk : List (Key × D)} (t : LamX.Tabs T H) (h : H a = some (.dK ks)) (k : KvOk S ks kk) : LamX.Tabs T (upd H a (.dK ls)) :=
  tabs_ob (S := S) (ob := .dct (kD kk)) t h (.inl ⟨_, _, rfl, rfl, k⟩)
theorem RSt.freeD {K : PySem.W.Frag} {S H : Hp} {σ : L2.St} {δ : DE} (R : RSt K F S H σ δ) {p : Addr} {us ws : List (Key × V)} {kk : List (Key × D)} (hk : KvOk S us kk) (hS : S p = none) (hp : H p = some (.dK us)) (hn : ¬ Own σ δ p) (h0 : F.H0 p = none) (hio : F.io ≠ some p) : RSt K F S (upd H p (.dK ws)) σ δ := by
  refine ⟨fun b u e => ?_, fun b u e nt n => ?_, fun b u e => ?_, fun t => ⟨tabs_dk (R.tb0 t).1 hp hk, (R.tb0 t).2⟩, R.s0, R.out, fun b e => ?_, R.len, fun i x s h1 h2 => ?_, R.sep, R.pin⟩
  · rw [upd_ne (fun z => by rw [z, hS] at e; cases e)]; exact R.sub b u e
  · rw [upd_ne (fun z => by rw [z, h0] at e; cases e)]; exact R.base b u e nt n
  · rw [upd_ne (fun z => by rw [z, h0] at e; cases e)]; exact R.dom0 b u e
  · rw [upd_ne (fun z => hio (by rw [← z]; exact e))]; exact R.iop b e
  · have q := R.slot i x s h1 h2
    cases s with
    | no => trivial
    | sh d => exact q
    | scr ns => exact q
    | ow xs =>
      obtain ⟨a, vs, e, e1, e2, e3, e4⟩ := q
      exact ⟨a, vs, e, e1, e2, by rw [upd_ne (fun z => hn ⟨i, xs, h2, by rw [h1, e, z]⟩)]; exact e3, e4⟩
omit [TabSet] in
theorem kv_ext {S S' : Hp} (x : Ex S S') {kws : List (Key × V)} {kk : List (Key × D)} (h : KvOk S kws kk) : KvOk S' kws kk := ⟨h.1, dqa_ext x h.2⟩
omit [TabSet] in
theorem kv_len {S : Hp} {kws : List (Key × V)} {kk : List (Key × D)} (h : KvOk S kws kk) : kws.length = kk.length := by
  have := congrArg List.length h.1
  simpa using this
omit [TabSet] in
theorem nt_dk {ks : List (Key × V)} : ∀ ps, (HO.dK ks : HO) ≠ .tbl ps := fun ps z => by cases z
/-- the reading of a dict comprehension -/
theorem dc_read {K : PySem.W.Frag} {it : MA} {gg : MG} {vs : List Nat} {S : Hp} {δ δ' : DE} {ob : Ob} {σ : L2.St} {H : Hp} {Q : VK} (R : RSt K F S H σ δ) (hf : oComp it gg tf fk fv vs δ = some (ob, δ'))
    (q : ∀ a o S' H', Stp S H S' H' σ δ δ' → RSt K F S' H' σ δ' → H a = none → S' a = none → H' a = some o → ObOk S' o ob → Q (.ref a) H') : tDc (SI K F it) (SG K F vs gg) (ST K F tf) (SE K F fk) (SE K F fv) vs σ H Q := by
  unfold oComp at hf
  cases h1 : it δ with
  | none => rw [h1] at hf; cases hf
  | some p =>
    obtain ⟨zs, δ1⟩ := p
    rw [h1] at hf
    simp only at hf
    split at hf
    · rename_i hno
      obtain ⟨hno, hz⟩ := hno
      split at hf
      · rename_i kF δ2 hrun
        cases hf
        refine ⟨S, δ, zs, δ1, R, h1, fun J S1 H1 s1 R1 hJ => fun Dl hD => ?_⟩
        obtain ⟨R1', s1', n1⟩ := lay_fresh (o := .dK []) R1 hD
        have hH : H Dl = none := by
          cases hz : H Dl with
          | none => rfl
          | some o =>
            obtain ⟨o', q'⟩ := s1.dom Dl o hz
            rw [hD] at q'; cases q'
        obtain ⟨z1, z2⟩ := R1.frz hD
        have nownD : ¬ Own σ δ1 Dl := fun o => by
          obtain ⟨us, q', _⟩ := R1.own_in o
          rw [hD] at q'; cases q'
        refine ⟨fun i m H' => m = zs.length - i ∧ i ≤ zs.length ∧ ∃ S' δi kws kk, RSt K F S' H' (wipe σ vs) δi ∧ Stp S1 H1 S' H' σ δ1 δi ∧ (∀ (j : Nat) xs, δi[j]? = some (.ow xs) → j ∉ vs) ∧ S' Dl = none ∧ H' Dl = some (.dK kws) ∧ KvOk S' kws kk ∧ kk.length ≤ i ∧
          cRunD gg tf fk fv vs kk (zs.drop i) δi = some (kF, δ2), ⟨zs.length, by omega, Nat.zero_le _, S1, wipeD δ1 vs, [], [], ?_, ?_, ?_, n1, upd_same, ⟨rfl, .nil⟩, Nat.zero_le _, hrun⟩, ?_⟩
        · exact R1'.wipe (wipe_length σ vs) (fun j hj => wipe_out hj) fun xs e => noOwn_of hno e
        · exact ⟨s1'.s, s1'.out, s1'.keep, s1'.dom, fun i xs e => ⟨xs, (wipe_ow e).2⟩, s1'.tb⟩
        · exact fun j xs e => (wipe_ow e).1
        · rintro i m H' ⟨rfl, hi, S', δi, kws, kk, Ri, si, noi, ni, hDi, da, hlen, hr⟩
          have ownD : ∀ {τ : L2.St} {δx : DE} {b : Addr}, (∀ j, j ∉ vs → τ[j]? = σ[j]?) → (∀ (j : Nat) xs, δx[j]? = some (.ow xs) → (∃ ys, δi[j]? = some (.ow ys)) ∧ j ∉ vs) → Own τ δx b → Own σ δ1 b := fun {τ δx b} hτ hx o => by
            obtain ⟨j, xs, o1, o2⟩ := o
            obtain ⟨⟨ys, e1⟩, nj⟩ := hx j xs o1
            obtain ⟨ws, e2⟩ := si.kind j ys e1
            rw [hτ j nj] at o2
            exact ⟨j, ws, e2, o2⟩
          by_cases hlt : i < zs.length
          · refine .inr ⟨hJ.go i S' H' si.s Ri.sub hlt, fun H'' => ∃ m', m' < zs.length - i ∧ (m' = zs.length - (i + 1) ∧ i + 1 ≤ zs.length ∧ ∃ S' δi kws kk, RSt K F S' H'' (wipe σ vs) δi ∧ Stp S1 H1 S' H'' σ δ1 δi ∧ (∀ (j : Nat) xs, δi[j]? = some (.ow xs) → j ∉ vs) ∧ S' Dl = none ∧ H'' Dl = some (.dK kws) ∧ KvOk S' kws kk ∧ kk.length ≤ i + 1 ∧
              cRunD gg tf fk fv vs kk (zs.drop (i + 1)) δi = some (kF, δ2)), fun H'' h => h, fun x H3 hy => ?_⟩
            obtain ⟨S3, g3, d3⟩ := hJ.yld i S' H' x H3 zs[i] si.s Ri.sub hy (List.getElem?_eq_getElem hlt)
            rw [List.drop_eq_getElem_cons hlt] at hr
            simp only [cRunD] at hr
            split at hr
            · rename_i δa ga
              have R3 := Ri.grow g3
              have h3 : H3 Dl = some (.dK kws) := g3.h Dl _ hDi nt_dk
              have n3 : S3 Dl = none := nt_none (g3.out Dl _ hDi) ni R3.sub h3 (by intro _ z; cases z)
              refine ⟨S3, δi, zs[i], δa, R3, d3, ga, fun τ Rt lτ cτ oτ => ?_⟩
              rw [wipe_length] at lτ
              have cτ' : ∀ j, j ∉ vs → τ[j]? = σ[j]? := fun j hj => (cτ j hj).trans (wipe_out hj)
              have kA : ∀ (j : Nat) xs, δa[j]? = some (.ow xs) → (∃ ys, δi[j]? = some (.ow ys)) ∧ j ∉ vs := fun j xs e => ⟨⟨xs, (oτ j xs e).1⟩, (oτ j xs e).2⟩
              have s13 : Stp S1 H1 S3 H3 σ δ1 δi := si.trans' (Stp.grow g3 (σ := wipe σ vs) (δ := δi)) (fun b o => ownD (fun j hj => wipe_out hj) (fun j xs e => ⟨⟨xs, e⟩, noi j xs e⟩) o) si.kind
              refine ⟨wipe_eq lτ cτ', ?_⟩
              have nD : ∀ {δx : DE}, (∀ (j : Nat) xs, δx[j]? = some (.ow xs) → (∃ ys, δi[j]? = some (.ow ys)) ∧ j ∉ vs) → ¬ Own τ δx Dl := fun hx o => nownD (ownD cτ' hx o)
              split at hr
              · rename_i δb tb
                refine ⟨S3, δa, true, δb, Rt, tb, fun S4 H4 s4 R4 => ?_⟩
                show ite (true = true) _ _
                rw [if_pos rfl]
                have kB : ∀ (j : Nat) xs, δb[j]? = some (.ow xs) → (∃ ys, δi[j]? = some (.ow ys)) ∧ j ∉ vs := fun j xs e => by
                  obtain ⟨ys, e2⟩ := s4.kind j xs e
                  exact kA j ys e2
                have h4 : H4 Dl = some (.dK kws) := s4.keep Dl _ h3 nt_dk (nD kA)
                have n4 : S4 Dl = none := nt_none (s4.out Dl _ h3) n3 R4.sub h4 (by intro _ z; cases z)
                have s14 : Stp S1 H1 S4 H4 σ δ1 δb := s13.trans' s4 (fun b o => ownD cτ' kA o) fun j xs e => by
                  obtain ⟨⟨ys, e2⟩, _⟩ := kB j xs e
                  exact si.kind j ys e2
                split at hr
                · rename_i k δc tc
                  refine ⟨S4, δb, k, δc, R4, tc, fun y S5 H5 s5 R5 d5 => ?_⟩
                  have kC : ∀ (j : Nat) xs, δc[j]? = some (.ow xs) → (∃ ys, δi[j]? = some (.ow ys)) ∧ j ∉ vs := fun j xs e => by
                    obtain ⟨ys, e2⟩ := s5.kind j xs e
                    exact kB j ys e2
                  have h5 : H5 Dl = some (.dK kws) := s5.keep Dl _ h4 nt_dk (nD kB)
                  have n5 : S5 Dl = none := nt_none (s5.out Dl _ h4) n4 R5.sub h5 (by intro _ z; cases z)
                  have s15 : Stp S1 H1 S5 H5 σ δ1 δc := s14.trans' s5 (fun b o => ownD cτ' kB o) fun j xs e => by
                    obtain ⟨⟨ys, e2⟩, _⟩ := kC j xs e
                    exact si.kind j ys e2
                  split at hr
                  · rename_i v δd td
                    refine ⟨S5, δc, v, δd, R5, td, fun w S6 H6 s6 R6 d6 => ?_⟩
                    have kE : ∀ (j : Nat) xs, δd[j]? = some (.ow xs) → (∃ ys, δi[j]? = some (.ow ys)) ∧ j ∉ vs := fun j xs e => by
                      obtain ⟨ys, e2⟩ := s6.kind j xs e
                      exact kC j ys e2
                    have h6 : H6 Dl = some (.dK kws) := s6.keep Dl _ h5 nt_dk (nD kC)
                    have n6 : S6 Dl = none := nt_none (s6.out Dl _ h5) n5 R6.sub h6 (by intro _ z; cases z)
                    have s16 : Stp S1 H1 S6 H6 σ δ1 δd := s15.trans' s6 (fun b o => ownD cτ' kC o) fun j xs e => by
                      obtain ⟨⟨ys, e2⟩, _⟩ := kE j xs e
                      exact si.kind j ys e2
                    split at hr
                    · rename_i k' hk'
                      obtain rfl := keyOf_eq hk'
                      have dkv : KvOk S6 kws kk := kv_ext (g3.s.trans (s4.s.trans (s5.s.trans s6.s))) da
                      have lkv := kv_len dkv
                      have pl := putT_len kk k' v
                      refine ⟨kws, k', dq_key d5, h6, Evl.sz_lt (by omega), zs.length - (i + 1), by omega, rfl, hlt, S6, wipeD δd vs, putK kws k' w, putT kk k' v, ?_, ?_, ?_, n6, upd_same, put_kv dkv k' d6, by omega, hr⟩
                      · exact (R6.freeD dkv n6 h6 (nD kE) z1 z2).wipe (by rw [wipe_length, lτ]) (fun j hj => (wipe_out hj).trans (cτ' j hj).symm) fun xs e => (kE 0 xs e).2
                      · refine ⟨s16.s, s16.out, fun b o e nt n => ?_, fun b o e => ?_, fun j xs e => ?_, fun t => ⟨tabs_dk (s16.tb t).1 h6 dkv, (s16.tb t).2⟩⟩
                        · rw [upd_ne (fun z => by rw [z, hD] at e; cases e)]
                          exact s16.keep b o e nt n
                        · rw [upd_ne (fun z => by rw [z, hD] at e; cases e)]
                          exact s16.dom b o e
                        · obtain ⟨_, e2⟩ := wipe_ow e
                          exact s16.kind j xs e2
                      · exact fun j xs e => (wipe_ow e).1
                    · cases hr
                  · cases hr
                · cases hr
              · rename_i δb tb
                refine ⟨S3, δa, false, δb, Rt, tb, fun S4 H4 s4 R4 => ?_⟩
                show ite (false = true) _ _
                rw [if_neg Bool.false_ne_true]
                have kB : ∀ (j : Nat) xs, δb[j]? = some (.ow xs) → (∃ ys, δi[j]? = some (.ow ys)) ∧ j ∉ vs := fun j xs e => by
                  obtain ⟨ys, e2⟩ := s4.kind j xs e
                  exact kA j ys e2
                have h4 : H4 Dl = some (.dK kws) := s4.keep Dl _ h3 nt_dk (nD kA)
                have n4 : S4 Dl = none := nt_none (s4.out Dl _ h3) n3 R4.sub h4 (by intro _ z; cases z)
                have s14 : Stp S1 H1 S4 H4 σ δ1 δb := s13.trans' s4 (fun b o => ownD cτ' kA o) fun j xs e => by
                  obtain ⟨⟨ys, e2⟩, _⟩ := kB j xs e
                  exact si.kind j ys e2
                refine ⟨zs.length - (i + 1), by omega, rfl, hlt, S4, wipeD δb vs, kws, kk, ?_, ?_, ?_, n4, h4, kv_ext (g3.s.trans s4.s) da, by omega, hr⟩
                · exact R4.wipe (by rw [wipe_length, lτ]) (fun j hj => (wipe_out hj).trans (cτ' j hj).symm) fun xs e => (kB 0 xs e).2
                · refine ⟨s14.s, s14.out, s14.keep, s14.dom, fun j xs e => ?_, s14.tb⟩
                  obtain ⟨_, e2⟩ := wipe_ow e
                  exact s14.kind j xs e2
                · exact fun j xs e => (wipe_ow e).1
              · cases hr
            · cases hr
          · refine .inl ⟨hJ.stop i S' H' si.s Ri.sub (by omega), ?_⟩
            rw [List.drop_eq_nil_of_le (by omega)] at hr
            cases hr
            have hl1 : δ2.length = δ1.length := by
              rw [← Ri.len, wipe_length, R1.len]
            have look : ∀ (j : Nat) s, (mergeD δ1 δ2 vs)[j]? = some s → (j ∈ vs ∧ δ1[j]? = some s) ∨ (j ∉ vs ∧ δ2[j]? = some s) := fun j s e => by
              have hlt : j < δ2.length := by
                have := (List.getElem?_eq_some_iff.mp e).1
                rwa [mergeD_len] at this
              by_cases hj : j ∈ vs
              · rw [mergeD_in hlt (by omega) hj] at e
                exact .inl ⟨hj, e⟩
              · rw [mergeD_out hj] at e
                exact .inr ⟨hj, e⟩
            refine q Dl _ S' H' ?_ ?_ hH ni hDi (.inl ⟨_, _, rfl, rfl, da⟩)
            · have sm : Stp S1 H1 S' H' σ δ1 (mergeD δ1 δ2 vs) := ⟨si.s, si.out, si.keep, si.dom, fun j xs e => by
                rcases look j _ e with ⟨hj, e2⟩ | ⟨hj, e2⟩
                · exact ⟨xs, e2⟩
                · exact si.kind j xs e2, si.tb⟩
              exact s1.trans sm
            · refine ⟨Ri.sub, Ri.base, Ri.dom0, Ri.tb0, Ri.s0, Ri.out, Ri.iop, by rw [mergeD_len, hl1, R1.len], fun j x s e1 e2 => ?_, fun j k a xs ys e1 e2 e3 e4 => ?_, fun a e => ?_⟩
              · rcases look j s e2 with ⟨hj, e3⟩ | ⟨hj, e3⟩
                · have q1 := R1.slot j x s e1 e3
                  cases s with
                  | no => trivial
                  | sh d =>
                    obtain ⟨v, w1, w2⟩ := q1
                    exact ⟨v, w1, dq_ext si.s w2⟩
                  | scr ns =>
                    obtain ⟨b, w1, w2⟩ := q1
                    exact ⟨b, w1, Evl.ex_l si.s w2⟩
                  | ow xs => exact absurd hj (noOwn_of hno e3)
                · exact Ri.slot j x s (by rw [wipe_out hj]; exact e1) e3
              · rcases look j _ e1 with ⟨hj, z⟩ | ⟨hj, f1⟩
                · exact absurd hj (noOwn_of hno z)
                · rcases look k _ e2 with ⟨hk, z⟩ | ⟨hk, f2⟩
                  · exact absurd hk (noOwn_of hno z)
                  · exact Ri.sep j k a xs ys f1 f2 (by rw [wipe_out hj]; exact e3) (by rw [wipe_out hk]; exact e4)
              · obtain ⟨p1, xs, p2⟩ := Ri.pin a e
                have n0 := noi 0 xs p2
                rw [wipe_out n0] at p1
                exact ⟨p1, xs, by rw [mergeD_out n0]; exact p2⟩
      · cases hf
    · cases hf
/-- {k: v for ..} -/
theorem o_dc {own : List (Str × Nat)} {it : MA} {gg : MG} {kx vx iter : Expr} {ifs : List Expr} {scope : Scope} (hc : X.calm = true) (hN : X.N.Nodup) (hi : PI X tg iter (SI X.K F it)) (ok : BlkOk X.N X.env.scope scope own)
    (hg : ∀ (s : Shared) (H : Hp) (C : Addr) (cl : List (Str × Addr)) (fp : List Addr), PG (X.blk s H scope (compEnvC scope cl C X.env) fp) tg (SG X.K F (own.map (·.2)) gg)) (ht : ∀ (s : Shared) (H : Hp) (C : Addr) (cl : List (Str × Addr)) (fp : List Addr), PTs (X.blk s H scope (compEnvC scope cl C X.env) fp) ifs (ST X.K F tf))
    (hk : ∀ (s : Shared) (H : Hp) (C : Addr) (cl : List (Str × Addr)) (fp : List Addr), PE (X.blk s H scope (compEnvC scope cl C X.env) fp) kx (SE X.K F fk)) (hv : ∀ (s : Shared) (H : Hp) (C : Addr) (cl : List (Str × Addr)) (fp : List Addr), PE (X.blk s H scope (compEnvC scope cl C X.env) fp) vx (SE X.K F fv)) (hs : ∀ x, foldedSetIterable iter X.env x = pure x := by intro _; rfl) :
    PE X (.DictComp kx vx [⟨tg, iter, ifs, 0⟩] scope pos) (SFO X.K F (oComp it gg tf fk fv (own.map (·.2)))) :=
  pfo_of fun S δ ob δ' σ H Q R hf q => ⟨_, pe_dc hc hN hi ok hg ht hk hv hs, dc_read R hf q⟩
end
end Pd

/-! a, b = two new things of one's own; a new thing and a value. -/
namespace Pd
open PySem PySem.Spec PyProof.Rows L2
open Evl (Ex)
/-- a new list, seen as a new thing -/
def oLst (ff : MA) : MO' := fun δ => match ff δ with
  | some (xs, δ1) => some (.lst xs, δ1)
  | none => none
def sParBB (i j : Nat) (fo go : MO') : MS := fun δ => match fo δ with
  | some (ob, δ1) => match go δ1 with
    | some (ob2, δ2) => if free0 i δ2 = true ∧ free0 j δ2 = true ∧ i ≠ j then some (.nx ((δ2.set i (.ow ob)).set j (.ow ob2))) else none
    | none => none
  | none => none
def sParBE (i j : Nat) (fo : MO') (g : M) : MS := fun δ => match fo δ with
  | some (ob, δ1) => match g δ1 with
    | some (d, δ2) => if free0 i δ2 = true ∧ free0 j δ2 = true ∧ i ≠ j then some (.nx ((δ2.set i (.ow ob)).set j (.sh d))) else none
    | none => none
  | none => none
section
variable [TabSet]
variable {X : Cx} {F : Fr} {e a b c tg : Expr} {pos p : Pos} {f g h : M} {tf : MT} {ff : MA} {x y : Str} {fo go : MO'} {W : WX}
theorem o_lst (h : PE X e (SF X.K F ff)) : PE X e (SFO X.K F (oLst ff)) := pfo_of fun S δ ob δ' σ H Q R hf q => by
  unfold oLst at hf
  split at hf
  · rename_i xs δ1 h1
    cases hf
    exact ⟨_, h, S, δ, xs, _, R, h1, fun a vs S' H' s R' n0 n1 e1 d1 => q a _ S' H' s R' n0 n1 e1 (ob_lst d1)⟩
  · cases hf
omit [TabSet] in
theorem own_set {σ : L2.St} {δ : DE} {i : Nat} {a a' : Addr} {ob : Ob} (hn : ¬ Own σ δ a') (ne : a ≠ a') : ¬ Own (σ.set i (some (.ref a))) (δ.set i (.ow ob)) a' := fun ⟨k, xs, h1, h2⟩ => by
  by_cases hk : i = k
  · subst hk
    have hl : i < (σ.set i (some (V.ref a))).length := (List.getElem?_eq_some_iff.mp h2).1
    rw [List.length_set] at hl
    rw [List.getElem?_set_self hl] at h2
    cases h2
    exact ne rfl
  · rw [List.getElem?_set_ne hk] at h1 h2
    exact hn ⟨k, xs, h1, h2⟩
theorem free_set {i j : Nat} {δ : DE} {s : Slot} (hj : free0 j δ = true) (hij : i ≠ j) : j = 0 → ∀ xs, (δ.set i s)[0]? ≠ some (.ow xs) := fun e xs z => by
  subst e
  rw [List.getElem?_set_ne hij] at z
  exact free0_of hj rfl xs z
/-- two own things at hand -/
theorem two_own {K : PySem.W.Frag} {S1 H1 S2 H2 S H : Hp} {σ : L2.St} {δ δ1 δ2 : DE} {i j : Nat} {a a' : Addr} {o o' : HO} {ob ob2 : Ob} (R : RSt K F S H σ δ) (s1 : Stp S H S1 H1 σ δ δ1) (R1 : RSt K F S1 H1 σ δ1) (n0 : H a = none) (n1 : S1 a = none) (e1 : H1 a = some o) (d1 : ObOk S1 o ob)
    (s2 : Stp S1 H1 S2 H2 σ δ1 δ2) (R2 : RSt K F S2 H2 σ δ2) (m0 : H1 a' = none) (m1 : S2 a' = none) (e2 : H2 a' = some o') (d2 : ObOk S2 o' ob2) (hi : free0 i δ2 = true) (hj : free0 j δ2 = true) (hij : i ≠ j) :
    RSt K F S2 H2 ((σ.set i (some (.ref a))).set j (some (.ref a'))) ((δ2.set i (.ow ob)).set j (.ow ob2)) := by
  obtain ⟨z1, z2, z3⟩ := own_new R s1 n0
  obtain ⟨y1, y2, y3⟩ := own_new R1 s2 m0
  have ne : a ≠ a' := fun z => by rw [z, m0] at e1; cases e1
  have e3 : H2 a = some o := s2.keep _ _ e1 (ob_nt d1) z3
  have n2 : S2 a = none := nt_none (s2.out _ _ e1) n1 R2.sub e3 (ob_ntup d1)
  have z4 : ¬ Own σ δ2 a := fun q => z3 (s2.own q)
  have R3 := R2.set_ow n2 (.inl z1) e3 (ob_ext s2.s d1) z4 i (free0_of hi)
  exact R3.set_ow m1 (.inl y1) e2 d2 (own_set y3 ne) j (free_set hj hij)
theorem one_own {K : PySem.W.Frag} {S1 H1 S2 H2 S H : Hp} {σ : L2.St} {δ δ1 δ2 : DE} {i j : Nat} {a : Addr} {v : V} {d : D} {o : HO} {ob : Ob} (R : RSt K F S H σ δ) (s1 : Stp S H S1 H1 σ δ δ1) (R1 : RSt K F S1 H1 σ δ1) (n0 : H a = none) (n1 : S1 a = none) (e1 : H1 a = some o) (d1 : ObOk S1 o ob)
    (s2 : Stp S1 H1 S2 H2 σ δ1 δ2) (R2 : RSt K F S2 H2 σ δ2) (d2 : Dq S2 v d) (hi : free0 i δ2 = true) (hj : free0 j δ2 = true) (hij : i ≠ j) :
    RSt K F S2 H2 ((σ.set i (some (.ref a))).set j (some v)) ((δ2.set i (.ow ob)).set j (.sh d)) := by
  obtain ⟨z1, z2, z3⟩ := own_new R s1 n0
  have e3 : H2 a = some o := s2.keep _ _ e1 (ob_nt d1) z3
  have n2 : S2 a = none := nt_none (s2.out _ _ e1) n1 R2.sub e3 (ob_ntup d1)
  have z4 : ¬ Own σ δ2 a := fun q => z3 (s2.own q)
  have R3 := R2.set_ow n2 (.inl z1) e3 (ob_ext s2.s d1) z4 i (free0_of hi)
  exact R3.set_sh d2 j (free_set hj hij)
variable {i j : Nat} {px py pt : Pos} {kt k2 : Nat} {pt2 : Pos}
theorem s_parBB {kt k2 pt2} (hc : X.calm = true) (hN : X.N.Nodup) (ha : PE X a (SFO X.K F fo)) (hb : PE X b (SFO X.K F go)) (hw : swappedStores [.Tuple [.Name x px, .Name y py] kt pt] (.Tuple [a, b] k2 pt2) X.env = pure (some [x, y])) (hi : X.N[i]? = some x := by rfl) (hj : X.N[j]? = some y := by rfl) (hij : i ≠ j := by decide)
    (he : starEach (a :: [b]) X.env = (false, eval a X.env) :: starEach [b] X.env := by rfl) (he2 : starEach (b :: []) X.env = (false, eval b X.env) :: starEach [] X.env := by rfl)
    (hx : X.env.scope.names.lookup x = some .local := by rfl) (hy : X.env.scope.names.lookup y = some .local := by rfl) (hs : swapsWithSole [.Tuple [.Name x px, .Name y py] kt pt] (.Tuple [a, b] k2 pt2) pos.line X.env = pure false := by rfl) :
    PS X (.Assign [.Tuple [.Name x px, .Name y py] kt pt] (.Tuple [a, b] k2 pt2) pos) (SS X.K X.mg F W (sParBB i j fo go)) := ps_of (ps_par hc hN hi hj hij hx hy (pa_cons ha (pa_cons hb pa_nil he2) he) hw hs) fun Z σ H hw => by
  obtain ⟨S, δ, o, R, hf, q⟩ := hw
  unfold sParBB at hf
  split at hf
  · rename_i ob δ1 h1
    split at hf
    · rename_i ob2 δ2 h2
      split at hf
      · rename_i h0
        cases hf
        exact ⟨S, δ, _, _, R, h1, fun a0 o0 S1 H1 s1 R1 n0 n1 e1 d1 => ⟨S1, δ1, _, δ2, R1, h2, fun a1 o1 S2 H2 s2 R2 m0 m1 e2 d2 => ⟨_, _, rfl, q _ S2 H2 (s1.s.trans s2.s) (two_own R s1 R1 n0 n1 e1 d1 s2 R2 m0 m1 e2 d2 h0.1 h0.2.1 h0.2.2)⟩⟩⟩
      · cases hf
    · cases hf
  · cases hf
theorem s_parBE {kt k2 pt2} (hc : X.calm = true) (hN : X.N.Nodup) (ha : PE X a (SFO X.K F fo)) (hb : PE X b (SE X.K F g)) (hw : swappedStores [.Tuple [.Name x px, .Name y py] kt pt] (.Tuple [a, b] k2 pt2) X.env = pure (some [x, y])) (hi : X.N[i]? = some x := by rfl) (hj : X.N[j]? = some y := by rfl) (hij : i ≠ j := by decide)
    (he : starEach (a :: [b]) X.env = (false, eval a X.env) :: starEach [b] X.env := by rfl) (he2 : starEach (b :: []) X.env = (false, eval b X.env) :: starEach [] X.env := by rfl)
    (hx : X.env.scope.names.lookup x = some .local := by rfl) (hy : X.env.scope.names.lookup y = some .local := by rfl) (hs : swapsWithSole [.Tuple [.Name x px, .Name y py] kt pt] (.Tuple [a, b] k2 pt2) pos.line X.env = pure false := by rfl) :
    PS X (.Assign [.Tuple [.Name x px, .Name y py] kt pt] (.Tuple [a, b] k2 pt2) pos) (SS X.K X.mg F W (sParBE i j fo g)) := ps_of (ps_par hc hN hi hj hij hx hy (pa_cons ha (pa_cons hb pa_nil he2) he) hw hs) fun Z σ H hw => by
  obtain ⟨S, δ, o, R, hf, q⟩ := hw
  unfold sParBE at hf
  split at hf
  · rename_i ob δ1 h1
    split at hf
    · rename_i d δ2 h2
      split at hf
      · rename_i h0
        cases hf
        exact ⟨S, δ, _, _, R, h1, fun a0 o0 S1 H1 s1 R1 n0 n1 e1 d1 => ⟨S1, δ1, d, δ2, R1, h2, fun v S2 H2 s2 R2 d2 => ⟨_, _, rfl, q _ S2 H2 (s1.s.trans s2.s) (one_own R s1 R1 n0 n1 e1 d1 s2 R2 d2 h0.1 h0.2.1 h0.2.2)⟩⟩⟩
      · cases hf
    · cases hf
  · cases hf
/-- the same where a name is read by a text within: through a tuple -/
theorem s_parBBc {kt k2 pt2} (hc : X.calm = true) (hN : X.N.Nodup) (ha : PE X a (SFO X.K F fo)) (hb : PE X b (SFO X.K F go)) (hi : X.N[i]? = some x := by rfl) (hj : X.N[j]? = some y := by rfl)
    (hx : Loc X.env.scope x := by first | exact Or.inl rfl | exact Or.inr rfl) (hy : Loc X.env.scope y := by first | exact Or.inl rfl | exact Or.inr rfl)
    (fx : X.fn x = true ∨ X.env.scope.names.lookup x = some .local := by first | exact .inl rfl | exact .inr rfl) (fy : X.fn y = true ∨ X.env.scope.names.lookup y = some .local := by first | exact .inl rfl | exact .inr rfl)
    (he : starEach (a :: [b]) X.env = (false, eval a X.env) :: starEach [b] X.env := by rfl) (he2 : starEach (b :: []) X.env = (false, eval b X.env) :: starEach [] X.env := by rfl)
    (ht : (assignEach [.Name x px, .Name y py] X.env).length = 2 := by rfl) (hst : (assignEach [.Name x px, .Name y py] X.env).findIdx? (·.1) = none := by rfl)
    (hn1 : assignEach (.Name x px :: [.Name y py]) X.env = (false, assign (.Name x px) X.env) :: assignEach [.Name y py] X.env := by rfl) (hn2 : assignEach (.Name y py :: []) X.env = (false, assign (.Name y py) X.env) :: assignEach [] X.env := by rfl)
    (hs : swapsWithSole [.Tuple [.Name x px, .Name y py] kt pt] (.Tuple [a, b] k2 pt2) pos.line X.env = pure false := by rfl) (hw : swappedStores [.Tuple [.Name x px, .Name y py] kt pt] (.Tuple [a, b] k2 pt2) X.env = pure none := by rfl)
    (h1 : (assignEach [.Tuple [.Name x px, .Name y py] kt pt] X.env).map (·.2) = [assign (.Tuple [.Name x px, .Name y py] kt pt) X.env] := by rfl) :
    PS X (.Assign [.Tuple [.Name x px, .Name y py] kt pt] (.Tuple [a, b] k2 pt2) pos) (SS X.K X.mg F W (sParBB i j fo go)) := ps_of (ps_asg (pe_tup (pa_cons ha (pa_cons hb pa_nil he2) he)) (pg_tup hc (pgs_cons (pg_name hN hi hx fx) (pgs_cons (pg_name hN hj hy fy) pgs_nil)) ht hst) hs hw h1) fun Z σ H hw => by
  obtain ⟨S, δ, o, R, hf, q⟩ := hw
  unfold sParBB at hf
  split at hf
  · rename_i ob δ1 h1
    split at hf
    · rename_i ob2 δ2 h2
      split at hf
      · rename_i h0
        cases hf
        refine ⟨S, δ, _, _, R, h1, fun a0 o0 S1 H1 s1 R1 n0 n1 e1 d1 => ⟨S1, δ1, _, δ2, R1, h2, fun a1 o1 S2 H2 s2 R2 m0 m1 e2 d2 => ⟨by show 2 ≤ sizeLine; decide, fun p hp => ?_⟩⟩⟩
        obtain ⟨R3, s3, n3⟩ := lay_fresh (o := .tup [.ref a0, .ref a1]) R2 hp
        have s4 := s2.trans s3
        have w := two_own R s1 R1 n0 n1 e1 d1 s4 R3 m0 m1 (s3.keep _ _ e2 (ob_nt d2) (own_new R1 s2 m0).2.2) d2 h0.1 h0.2.1 h0.2.2
        exact ⟨p, _, rfl, SqT.of upd_same, rfl, _, _, rfl, _, _, rfl, rfl, q _ S2 _ (s1.s.trans s4.s) w⟩
      · cases hf
    · cases hf
  · cases hf
end
@[simp] theorem Wp_oLst {ff : MA} {δ : DE} {Q : Ob × DE → Prop} : Wp (oLst ff δ) Q ↔ Wp (ff δ) fun p => Q (.lst p.1, p.2) := by
  unfold oLst
  rcases ff δ with _ | ⟨x, δ1⟩ <;> simp
@[simp] theorem wp_sParBB {i j : Nat} {fo go : MO'} {δ : DE} {QS : Out → Prop} : Wp (sParBB i j fo go δ) QS ↔ Wp (fo δ) fun p => Wp (go p.2) fun q => (free0 i q.2 = true ∧ free0 j q.2 = true ∧ i ≠ j) ∧ QS (.nx ((q.2.set i (.ow p.1)).set j (.ow q.1))) := by
  unfold sParBB
  rcases fo δ with _ | ⟨x, δ1⟩ <;> simp
  rcases go δ1 with _ | ⟨y, δ2⟩ <;> simp
@[simp] theorem wp_sParBE {i j : Nat} {fo : MO'} {g : M} {δ : DE} {QS : Out → Prop} : Wp (sParBE i j fo g δ) QS ↔ Wp (fo δ) fun p => Wp (g p.2) fun q => (free0 i q.2 = true ∧ free0 j q.2 = true ∧ i ≠ j) ∧ QS (.nx ((q.2.set i (.ow p.1)).set j (.sh q.1))) := by
  unfold sParBE
  rcases fo δ with _ | ⟨x, δ1⟩ <;> simp
  rcases g δ1 with _ | ⟨y, δ2⟩ <;> simp
end Pd

/-! what dict([..]) and {k: v for ..} are to a law's mathematics. -/
namespace Pd
open PySem PySem.Spec PyProof.Rows L2
open Evl (Ex)
section
variable {f : M} {δ : DE} {QO : Ob × DE → Prop} {it : MA} {gg : MG} {tf : MT} {fk fv : M} {vs : List Nat}
/-- the pairs, as a dict's -/
def mkdK (Q : Ob × DE → Prop) : D × DE → Prop
  | (.list ds, δ1) => Wp (pairsK ds) fun l => Q (.dct (kD (mrgT [] l)), δ1)
  | _ => False
@[simp] theorem mkdK_l {ds : List D} : mkdK QO (.list ds, δ) ↔ Wp (pairsK ds) fun l => QO (.dct (kD (mrgT [] l)), δ) := Iff.rfl
@[simp] theorem wp_oDict : Wp (oDict f δ) QO ↔ Wp (f δ) (mkdK QO) := by
  unfold oDict
  rcases f δ with _ | ⟨x, δ1⟩
  · simp
  cases x <;> simp [mkdK]
/-- a table of whole numbers, made of pairs one after another -/
def mkI (kk : List (Int × D)) (l : List (Int × D)) : List (Int × D) := l.foldl (fun acc p => putT acc p.1 p.2) kk
theorem pairs_int : ∀ l : List (Int × D), pairsK (l.map fun p => .tuple [.int p.1, p.2]) = some (l.map fun p => ((Sum.inl p.1 : Key), p.2))
  | [] => rfl
  | p :: l => by
    simp only [List.map_cons, pairsK, pairs_int l]
    rfl
theorem put_inl (kk : List (Int × D)) (k : Int) (v : D) : putT (kk.map fun p => ((Sum.inl p.1 : Key), p.2)) (Sum.inl k) v = (putT kk k v).map fun p => ((Sum.inl p.1 : Key), p.2) := by
  unfold putT
  have e : ((kk.map fun p => ((Sum.inl p.1 : Key), p.2)).any fun p => decide (p.1 = Sum.inl k)) = kk.any fun p => decide (p.1 = k) := by
    rw [List.any_map]
    congr 1
    funext p
    show decide ((Sum.inl p.1 : Key) = Sum.inl k) = decide (p.1 = k)
    simp
  rw [e]
  split
  · rw [List.map_map, List.map_map]
    apply List.map_congr_left
    intro p _
    by_cases z : p.1 = k
    · simp [z]
    · simp [z]
  · simp
theorem mrg_inl : ∀ (l kk : List (Int × D)), mrgT (kk.map fun p => ((Sum.inl p.1 : Key), p.2)) (l.map fun p => ((Sum.inl p.1 : Key), p.2)) = (mkI kk l).map fun p => ((Sum.inl p.1 : Key), p.2)
  | [], _ => rfl
  | p :: l, kk => by
    have := mrg_inl l (putT kk p.1 p.2)
    unfold mrgT mkI at this ⊢
    simp only [List.map_cons, List.foldl_cons]
    rw [put_inl]
    exact this
theorem kD_inl (kk : List (Int × D)) : kD (kk.map fun p => ((Sum.inl p.1 : Key), p.2)) = dI kk := by
  unfold kD dI
  rw [List.map_map]
  rfl
/-- dict of pairs whose keys are whole numbers -/
theorem w_dictI {l : List (Int × D)} {Q : Ob × DE → Prop} (q : Q (.dct (dI (mkI [] l)), δ)) : mkdK Q (.list (l.map fun p => .tuple [.int p.1, p.2]), δ) := by
  show Wp (pairsK _) _
  refine wp_of_eq (pairs_int l) ?_
  have := mrg_inl l []
  simp only [List.map_nil] at this
  rw [this, kD_inl]
  exact q
/-- what stands at a key: the last that was put there -/
theorem mk_val : ∀ (l kk : List (Int × D)) (k : Int), valT (mkI kk l) k = match l.reverse.find? fun p => decide (p.1 = k) with
    | some p => some p.2
    | none => valT kk k
  | [], kk, k => rfl
  | p :: l, kk, k => by
    have := mk_val l (putT kk p.1 p.2) k
    unfold mkI at this ⊢
    rw [List.foldl_cons, this, List.reverse_cons, List.find?_append, valT_put]
    cases l.reverse.find? fun p => decide (p.1 = k) with
    | some q => rfl
    | none =>
      by_cases z : p.1 = k
      · simp [z]
      · have : ¬ k = p.1 := fun e => z e.symm
        simp [z, this]
/-! ### a comprehension that makes a dict -/
@[simp] theorem wp_oComp : Wp (oComp it gg tf fk fv vs δ) QO ↔ Wp (it δ) fun p => (noOwn vs p.2 = true ∧ p.1.length ≤ 100000) ∧ Wp (cRunD gg tf fk fv vs [] p.1 (wipeD p.2 vs)) fun q => QO (.dct (kD q.1), mergeD p.2 q.2 vs) := by
  unfold oComp
  rcases it δ with _ | ⟨ds, δ1⟩ <;> simp
  intro _ _
  rcases cRunD gg tf fk fv vs [] ds (wipeD δ1 vs) with _ | ⟨ys, δ2⟩ <;> simp
theorem wp_cMapD {ds : List D} {α : Type} (en : α → D) (xs : List α) (pr : α → Bool) (ky : α → Int) (o : α → D) {Q : List (Key × D) × DE → Prop} (hd : ds = xs.map en)
    (hs : ∀ x ∈ xs, Wp (gg (en x) δ) fun δ1 => Wp (tf δ1) fun p => p.1 = pr x ∧ (pr x = true → Wp (fk p.2) fun q => q.1 = .int (ky x) ∧ Wp (fv q.2) fun r => r.1 = o x ∧ wipeD r.2 vs = δ) ∧ (pr x = false → wipeD p.2 vs = δ))
    (he : Q ((mkI [] ((xs.filter pr).map fun x => (ky x, o x))).map (fun p => ((Sum.inl p.1 : Key), p.2)), δ)) : Wp (cRunD gg tf fk fv vs [] ds δ) Q := by
  subst hd
  have key : ∀ (xs : List α) (acc : List (Int × D)), (∀ x ∈ xs, Wp (gg (en x) δ) fun δ1 => Wp (tf δ1) fun p => p.1 = pr x ∧ (pr x = true → Wp (fk p.2) fun q => q.1 = .int (ky x) ∧ Wp (fv q.2) fun r => r.1 = o x ∧ wipeD r.2 vs = δ) ∧ (pr x = false → wipeD p.2 vs = δ)) →
      cRunD gg tf fk fv vs (acc.map fun p => ((Sum.inl p.1 : Key), p.2)) (xs.map en) δ = some ((mkI acc ((xs.filter pr).map fun x => (ky x, o x))).map (fun p => ((Sum.inl p.1 : Key), p.2)), δ) := by
    intro xs
    induction xs with
    | nil => intro acc _; rfl
    | cons x r ih =>
      intro acc h
      have ih := fun acc => ih acc fun y hy => h y (List.mem_cons_of_mem _ hy)
      obtain ⟨δ1, e1, ⟨b, δ2⟩, e2, hb, k1, k2⟩ := h x (List.mem_cons_self ..)
      simp only at hb k1 k2
      subst hb
      cases hp : pr x with
      | true =>
        obtain ⟨⟨y, δ3⟩, e3, hy, ⟨z, δ4⟩, e4, hz, hw⟩ := k1 hp
        simp only at hy hz hw
        subst hy hz
        rw [hp] at e2
        simp only [List.map_cons, cRunD, e1, e2, e3, e4, keyOf, hw]
        rw [put_inl, ih, List.filter_cons_of_pos hp]
        rfl
      | false =>
        rw [hp] at e2
        simp only [List.map_cons, cRunD, e1, e2, k2 hp]
        rw [ih, List.filter_cons_of_neg (by rw [hp]; simp)]
  exact wp_of_eq (key xs [] hs) he
end
end Pd

/-! dict(l), l a list of pairs whose keys are tuples. -/
namespace Pd
open PySem PySem.Spec PyProof.Rows L2
def mergeT (kvs more : List (List Key × V)) : List (List Key × V) := more.foldl (fun acc kv => putK acc kv.1 kv.2) kvs
theorem length_mergeT : ∀ (more kvs : List (List Key × V)), (mergeT kvs more).length ≤ kvs.length + more.length
  | [], kvs => by show kvs.length ≤ kvs.length + 0; omega
  | p :: r, kvs => by
    have h1 := length_mergeT r (putK kvs p.1 p.2)
    have h2 := length_putK kvs p.1 p.2
    show (mergeT (putK kvs p.1 p.2) r).length ≤ _
    rw [List.length_cons]
    omega
section
variable {X : Cx}
theorem pairsT_of {pins : List (Addr × Obj)} {σ : L2.St} {H : Hp} {s : Shared} (I : Inv X pins σ H s) : ∀ {ps : List Addr} {kvs : List (List Key × Addr × V)}, Paired (fun p kv => SqT X.K H p [V.ref kv.2.1, kv.2.2] ∧ H kv.2.1 = some (.tup (kv.1.map kV))) ps kvs →
    ∃ prs : List (List Key × Addr × Value), KT H (kvs.map fun z => (z.1, z.2.2)) prs ∧ prs.length = ps.length ∧ ∀ (j : Nat) (q : List Key × Addr × Value), prs[j]? = some q → ∃ b, ps[j]? = some b ∧ IsTup s.heap b #[Value.ref q.2.1, q.2.2] ∧ H q.2.1 = some (.tup (q.1.map kV))
  | _, _, .nil => ⟨[], .nil, rfl, fun j q e => by simp at e⟩
  | _, _, .cons (a := p) (b := kv) h t => by
    obtain ⟨prs, r, hl, hp⟩ := pairsT_of I t
    obtain ⟨its, rv, ht, _⟩ := I.tuple h.1
    obtain ⟨u, y, ei, ru, ry⟩ := vals2 rv
    subst ei
    cases (show u = Value.ref kv.2.1 from ru)
    refine ⟨(kv.1, kv.2.1, y) :: prs, .cons ⟨rfl, h.2, ry⟩ r, by rw [List.length_cons, List.length_cons, hl], fun j q e => ?_⟩
    cases j with
    | zero =>
      have e' : (kv.1, kv.2.1, y) = q := Option.some.inj e
      subst e'
      exact ⟨p, rfl, ht, h.2⟩
    | succ j =>
      obtain ⟨b, e1, e2, e3⟩ := hp j q (by simpa using e)
      exact ⟨b, by simpa using e1, e2, e3⟩
theorem KT_merge {H : Hp} : ∀ {wl kvs : List (List Key × V)} {ps xs : List (List Key × Addr × Value)}, KT H kvs xs → KT H wl ps → KT H (mergeT kvs wl) (storedAllH xs ps)
  | _, _, _, _, r, .nil => r
  | _, _, _, _, r, .cons (a := p) (b := q) h t => by
    obtain ⟨h1, h2, h3⟩ := h
    have := KT_merge (r.put p.1 (b := q.2.1) h2 h3) t
    unfold mergeT storedAllH at this ⊢
    rw [List.foldl_cons, List.foldl_cons, ← h1]
    exact this
theorem call_dictPT (hcalm : X.calm = true) (hu : (tupleKind (mixKind X.prog X.w)).room X.A.in1.in1) : CallR X (.type "dict") (fun xs H Q => ∃ (a : Addr) (ps : List Addr) (kvs : List (List Key × Addr × V)), xs = [.ref a] ∧ SqL X.K H a (ps.map V.ref) ∧ Paired (fun p kv => SqT X.K H p [V.ref kv.2.1, kv.2.2] ∧ H kv.2.1 = some (.tup (kv.1.map kV))) ps kvs ∧
    ∀ p, H p = none → Q (.ref p) (upd H p (.dT (mergeT [] (kvs.map fun z => (z.1, z.2.2)))))) := by
  intro pins s σ H xs us Q I r q
  obtain ⟨a, ps, kvs, ex, hq, hp, q⟩ := q
  subst ex
  obtain ⟨u, eu, rx⟩ := vals1 r
  subst eu
  cases rx
  obtain ⟨its, rv, pl, hz⟩ := I.list hq
  have ei := refs_at rv
  subst ei
  rw [List.length_map] at hz
  obtain ⟨prs, rel, hl, hpr⟩ := pairsT_of I hp
  refine call_dict_pairsH (knd := tupleKind (mixKind X.prog X.w)) (ps := prs) (PairArg.list a (ps.map Value.ref).toArray (fun j => ps.getD j 0) (prs.map fun q => (Value.ref q.2.1, q.2.2))) (I.ok.hd hcalm) hu ⟨pl, by simp [hl], fun j k v e => ?_⟩ ⟨by simp, fun i key v e => ?_⟩ (fun h' hk x hx => ?_) (by simpa [hl] using hz) fun h' tk hd' k => ?_
  · rw [List.getElem?_map] at e
    obtain ⟨q0, e1, e2⟩ := Option.map_eq_some_iff.mp e
    cases e2
    obtain ⟨b, f1, f2, f3⟩ := hpr j q0 e1
    obtain ⟨o, g1, g2, n, g3⟩ := f2
    refine ⟨by simp [f1], .inl ?_⟩
    show s.heap.IsTuple (ps.getD j 0) _
    rw [List.getD_eq_getElem?_getD, f1]
    exact ⟨o, g1, g2, n, g3⟩
  · have e : (prs.map fun q => (Value.ref q.2.1, q.2.2))[i]? = some (key, v) := e
    rw [List.getElem?_map] at e
    obtain ⟨q0, e1, e2⟩ := Option.map_eq_some_iff.mp e
    cases e2
    exact ⟨q0.1, q0.2.1, e1, rfl⟩
  · obtain ⟨j, hj⟩ := List.getElem?_of_mem hx
    obtain ⟨b, f1, f2, f3⟩ := hpr j x hj
    obtain ⟨o, its, n, h1, h2⟩ := key_of I.hok f3
    exact ⟨o, its, n, hk _ _ (Nat.ne_of_lt (Heap.lt_size h1)) (by simp) h1, h2⟩
  · have hm : (s.heap.objs.size == sysModules) = false := beq_eq_false_iff_ne.mpr (Nat.ne_of_gt I.big)
    have hlen : (mergeT [] (kvs.map fun z => (z.1, z.2.2))).length ≤ sizeLine := by
      refine Nat.le_trans (length_mergeT _ []) ?_
      rw [List.length_nil, Nat.zero_add, Paired.length rel, hl]
      exact hz
    have fr : H s.heap.objs.size = none := I.hok.fresh (Nat.le_refl _)
    obtain ⟨o, es, ep, g1, g2, g3, g4, _, g5⟩ := hd'
    refine ⟨.ref s.heap.objs.size, upd H s.heap.objs.size (.dT (mergeT [] (kvs.map fun z => (z.1, z.2.2)))), I.laid (t' := tk) (fun b o e => k b o (by simp) e) (Nat.le_refl _) ?_, rfl, q _ fr⟩
    exact ⟨hlen, hm, storedAllH [] prs, (KT_merge .nil rel).keeps fun c ys ec => by rw [upd_ne (ne_of_none ec fr)]; exact ec, o, es, ep, g1, g2, g3, g4, g5⟩
end
end Pd

/-! dict([(row, v), ..]): tuples as keys. -/
namespace Pd
open PySem PySem.Spec PyProof.Rows L2
open Evl (Ex)
def pairsT : List D → Option (List (List Key × D))
  | [] => some []
  | .tuple [k, v] :: r => match keysOf k with
    | some kk => (pairsT r).map fun l => (kk, v) :: l
    | none => none
  | _ => none
def mrgTT (kk l : List (List Key × D)) : List (List Key × D) := l.foldl (fun acc p => putT acc p.1 p.2) kk
def oDictT (f : M) : MO' := fun δ => match f δ with
  | some (.list ds, δ1) => (pairsT ds).map fun l => (.dct (tD (mrgTT [] l)), δ1)
  | _ => none
theorem put_kvT {S : Hp} {kws : List (List Key × V)} {kk : List (List Key × D)} (h : KvOk S kws kk) (k : List Key) {v : V} {d : D} (hd : Dq S v d) : KvOk S (putK kws k v) (putT kk k d) := by
  have ea : (kws.any fun kv => decide (kv.1 = k)) = (kk.any fun p => decide (p.1 = k)) := by
    have := congrArg (fun l : List (List Key) => l.any fun x => decide (x = k)) h.1
    rw [List.any_map, List.any_map] at this
    exact this
  unfold putK putT
  rw [ea]
  split
  · obtain ⟨i1, i2, _⟩ := put_map (enc := keysD) eqv_keysD k hd h.1 h.2
    exact ⟨i1, i2⟩
  · refine ⟨by simp [h.1], ?_⟩
    rw [List.map_append, List.map_append]
    exact dqa_app h.2 (.cons hd .nil)
theorem merge_kvT {S : Hp} : ∀ {wl : List (List Key × V)} {dl : List (List Key × D)} {kws : List (List Key × V)} {kk : List (List Key × D)}, KvOk S kws kk → wl.map (·.1) = dl.map (·.1) → DqAll S (wl.map (·.2)) (dl.map (·.2)) → KvOk S (mergeT kws wl) (mrgTT kk dl)
  | [], [], _, _, h, _, _ => h
  | [], _ :: _, _, _, _, e, _ => by simp at e
  | _ :: _, [], _, _, _, e, _ => by simp at e
  | (a, v) :: wl, (b, d) :: dl, kws, kk, h, e, q => by
    simp only [List.map_cons, List.cons.injEq] at e
    obtain ⟨rfl, e⟩ := e
    simp only [List.map_cons] at q
    cases q with
    | cons q1 q2 => exact merge_kvT (wl := wl) (dl := dl) (kws := putK kws a v) (kk := putT kk a d) (put_kvT h a q1) e q2
section
variable [TabSet]
theorem pairs_ofT {K : PySem.W.Frag} {S H : Hp} (sub : Ex S H) : ∀ {vs : List V} {ds : List D} {l : List (List Key × D)}, DqAll S vs ds → pairsT ds = some l → ∃ (ps : List Addr) (wl : List (List Key × Addr × V)), vs = ps.map V.ref ∧ Paired (fun p kv => SqT K H p [V.ref kv.2.1, kv.2.2] ∧ H kv.2.1 = some (.tup (kv.1.map kV))) ps wl ∧ (wl.map fun z => (z.1, z.2.2)).map (·.1) = l.map (·.1) ∧ DqAll S ((wl.map fun z => (z.1, z.2.2)).map (·.2)) (l.map (·.2))
  | _, [], l, .nil, h => by
    cases h
    exact ⟨[], [], rfl, .nil, rfl, .nil⟩
  | _, d :: ds, l, .cons h1 h2, h => by
    unfold pairsT at h
    split at h
    · rename_i e
      cases e
    · rename_i k v r e
      cases e
      split at h
      · rename_i kk hk
        obtain ⟨l', e', rfl⟩ := Option.map_eq_some_iff.mp h
        obtain ⟨ps, wl, rfl, hp, hf, hs⟩ := pairs_ofT sub h2 e'
        obtain ⟨b, us, rfl, hb, hu⟩ := dq_tup h1
        obtain rfl := keysOf_eq hk
        cases hu with
        | cons u1 u2 =>
          cases u2 with
          | cons u2 u3 =>
            cases u3
            obtain ⟨c, rfl, hc⟩ := dq_keys u1
            rename_i y
            exact ⟨b :: ps, (kk, c, y) :: wl, rfl, .cons ⟨SqT.of (sub _ _ hb), sub _ _ hc⟩ hp, by simpa using hf, .cons u2 hs⟩
      · cases h
    · cases h
variable {X : Cx} {F : Fr} {e a b c tg : Expr} {pos p : Pos} {f g h fk fv : M} {tf : MT} {x : Str}
theorem o_dictT {n : Nat} {pp : Pos} (hr : Room n X.A) (hc : X.calm = true) (hg : Gl X "dict" := by rfl) (hm : X.mg "dict" = none) (ha : PE X a (SE X.K F f)) (he : starEach (a :: []) X.env = (false, eval a X.env) :: starEach [] X.env := by rfl) (hpl : (backTo pos (starEach [] X.env)).any (·.1) = false := by rfl) :
    PE X (.Call (.Name "dict" pp) [a] [] pos) (SFO X.K F (oDictT f)) := by
  have hu : (tupleKind (mixKind X.prog X.w)).room X.A.in1.in1 := by
    have := hr.un
    show X.A.in1.units + 1 < cLine
    have : X.A.in1.units = X.A.units + 1 := rfl
    omega
  refine pfo_of fun S δ ob δ' σ H Q R hf q => ⟨_, pe_callTy (call_dictPT hc hu) hg hm (by decide +kernel) (pa_cons ha pa_nil he) (he := he) (hpl := hpl), ?_⟩
  unfold oDictT at hf
  split at hf
  · rename_i ds δ1 h1
    obtain ⟨l, e1, e2⟩ := Option.map_eq_some_iff.mp hf
    cases e2
    refine ⟨S, δ, _, _, R, h1, fun v S1 H1 s1 R1 d1 => ?_⟩
    obtain ⟨p1, vs, rfl, ep, dv⟩ := dq_list d1
    obtain ⟨ps, wl, rfl, hp, hf1, hs1⟩ := pairs_ofT (K := X.K) R1.sub dv e1
    refine ⟨p1, ps, wl, rfl, SqL.of (R1.sub _ _ ep), hp, fun p hpn => ?_⟩
    obtain ⟨R2, s2, n2⟩ := lay_fresh (o := .dT (mergeT [] (wl.map fun z => (z.1, z.2.2)))) R1 hpn
    have hH : H p = none := by
      cases hz : H p with
      | none => rfl
      | some o =>
        obtain ⟨o', q'⟩ := s1.dom p o hz
        rw [hpn] at q'; cases q'
    exact q p _ S1 _ (s1.trans s2) R2 hH n2 upd_same (.inr ⟨_, _, rfl, rfl, merge_kvT (kws := []) (kk := []) ⟨rfl, .nil⟩ hf1 hs1⟩)
  · cases hf
end
end Pd

/-! a, b = a value and a new thing of one's own. -/
namespace Pd
open PySem PySem.Spec PyProof.Rows L2
open Evl (Ex)
def sParEB (i j : Nat) (g : M) (fo : MO') : MS := fun δ => match g δ with
  | some (d, δ1) => match fo δ1 with
    | some (ob, δ2) => if free0 i δ2 = true ∧ free0 j δ2 = true ∧ i ≠ j then some (.nx ((δ2.set i (.sh d)).set j (.ow ob))) else none
    | none => none
  | none => none
section
variable [TabSet]
variable {X : Cx} {F : Fr} {e a b c tg : Expr} {pos p : Pos} {f g h : M} {x y : Str} {fo go : MO'} {W : WX}
omit [TabSet] in
theorem own_setS {σ : L2.St} {δ : DE} {i : Nat} {v : V} {d : D} {a' : Addr} (hn : ¬ Own σ δ a') : ¬ Own (σ.set i (some v)) (δ.set i (.sh d)) a' := fun ⟨k, xs, h1, h2⟩ => by
  by_cases hk : i = k
  · subst hk
    have hl : i < (δ.set i (Slot.sh d)).length := (List.getElem?_eq_some_iff.mp h1).1
    rw [List.length_set] at hl
    rw [List.getElem?_set_self hl] at h1
    cases h1
  · rw [List.getElem?_set_ne hk] at h1 h2
    exact hn ⟨k, xs, h1, h2⟩
variable {i j : Nat} {px py pt : Pos}
theorem s_parEB {kt k2 pt2} (hc : X.calm = true) (hN : X.N.Nodup) (ha : PE X a (SE X.K F g)) (hb : PE X b (SFO X.K F fo)) (hw : swappedStores [.Tuple [.Name x px, .Name y py] kt pt] (.Tuple [a, b] k2 pt2) X.env = pure (some [x, y])) (hi : X.N[i]? = some x := by rfl) (hj : X.N[j]? = some y := by rfl) (hij : i ≠ j := by decide)
    (he : starEach (a :: [b]) X.env = (false, eval a X.env) :: starEach [b] X.env := by rfl) (he2 : starEach (b :: []) X.env = (false, eval b X.env) :: starEach [] X.env := by rfl)
    (hx : X.env.scope.names.lookup x = some .local := by rfl) (hy : X.env.scope.names.lookup y = some .local := by rfl) (hs : swapsWithSole [.Tuple [.Name x px, .Name y py] kt pt] (.Tuple [a, b] k2 pt2) pos.line X.env = pure false := by rfl) :
    PS X (.Assign [.Tuple [.Name x px, .Name y py] kt pt] (.Tuple [a, b] k2 pt2) pos) (SS X.K X.mg F W (sParEB i j g fo)) := ps_of (ps_par hc hN hi hj hij hx hy (pa_cons ha (pa_cons hb pa_nil he2) he) hw hs) fun Z σ H hw => by
  obtain ⟨S, δ, o, R, hf, q⟩ := hw
  unfold sParEB at hf
  split at hf
  · rename_i d δ1 h1
    split at hf
    · rename_i ob δ2 h2
      split at hf
      · rename_i h0
        cases hf
        refine ⟨S, δ, d, _, R, h1, fun v S1 H1 s1 R1 d1 => ⟨S1, δ1, _, δ2, R1, h2, fun a1 o1 S2 H2 s2 R2 m0 m1 e2 d2 => ⟨_, _, rfl, q _ S2 H2 (s1.s.trans s2.s) ?_⟩⟩⟩
        obtain ⟨y1, y2, y3⟩ := own_new R1 s2 m0
        have R3 := R2.set_sh (dq_ext s2.s d1) i (free0_of h0.1)
        refine R3.set_ow m1 (.inl y1) e2 d2 (own_setS y3) j fun z xs w => ?_
        subst z
        rw [List.getElem?_set_ne h0.2.2] at w
        exact free0_of h0.2.1 rfl xs w
      · cases hf
    · cases hf
  · cases hf
end
@[simp] theorem wp_sParEB {i j : Nat} {fo : MO'} {g : M} {δ : DE} {QS : Out → Prop} : Wp (sParEB i j g fo δ) QS ↔ Wp (g δ) fun p => Wp (fo p.2) fun q => (free0 i q.2 = true ∧ free0 j q.2 = true ∧ i ≠ j) ∧ QS (.nx ((q.2.set i (.sh p.1)).set j (.ow q.1))) := by
  unfold sParEB
  rcases g δ with _ | ⟨x, δ1⟩ <;> simp
  rcases fo δ1 with _ | ⟨y, δ2⟩ <;> simp
end Pd

/-! sorted(d), d a dict whose keys are tuples of ints, none of them empty; its keys become shared. -/
namespace Pd
open PySem PySem.Spec PyProof.Rows L2
open Evl (Ex)
section
def addK (S H : Hp) (bs : List Addr) : Hp := fun b => if b ∈ bs then H b else S b
variable [TabSet]
theorem addK_grow {S H : Hp} (e : Ex S H) {bs : List Addr} (hb : ∀ b ∈ bs, ∃ xs, H b = some (.tup xs)) : Grow S H (addK S H bs) H where
  s := fun b o h => by
    unfold addK
    split
    · exact e b o h
    · exact h
  h := LamX.ExtN.refl H
  sub := fun b o h => by
    unfold addK at h
    split at h
    · exact h
    · exact e b o h
  out := fun b o h => by
    unfold addK
    split
    · rename_i hm
      obtain ⟨xs, hx⟩ := hb b hm
      rw [hx]
      cases hs : S b with
      | none => rfl
      | some u =>
        have h2 := e b u hs
        rw [hx] at h2
        cases h2
        rfl
    · rfl
  dom := fun b o h => ⟨o, h⟩
  tb := fun t => ⟨t.1, fun b o h => by
    unfold addK at h
    split at h
    · rename_i hm
      obtain ⟨xs, hx⟩ := hb b hm
      rw [hx] at h
      cases h
      intro _ z
      cases z
    · exact t.2 b o h⟩
omit [TabSet] in
theorem addK_in {S H : Hp} {bs : List Addr} {b : Addr} {o : HO} (hb : b ∈ bs) (h : H b = some o) : addK S H bs b = some o := by
  unfold addK
  rw [if_pos hb]
  exact h
variable {X : Cx}
omit [TabSet] in
theorem pair_mem {α β : Type} {R : α → β → Prop} : ∀ {xs : List α} {ys : List β}, Paired R xs ys → ∀ y ∈ ys, ∃ x ∈ xs, R x y
  | _, _, .nil, y, h => by cases h
  | _, _, .cons r t, y, h => by
    rcases List.mem_cons.mp h with rfl | h
    · exact ⟨_, List.mem_cons_self .., r⟩
    · obtain ⟨x, hx, q⟩ := pair_mem t y h
      exact ⟨x, List.mem_cons_of_mem _ hx, q⟩
omit [TabSet] in
theorem pair_map {α β γ : Type} {R : α → β → Prop} {f : α → γ} {g : β → γ} (h : ∀ x y, R x y → f x = g y) : ∀ {xs : List α} {ys : List β}, Paired R xs ys → xs.map f = ys.map g
  | _, _, .nil => rfl
  | _, _, .cons r t => by rw [List.map_cons, List.map_cons, h _ _ r, pair_map h t]
omit [TabSet] in
theorem keys_int {n : List Int} : (n.map Sum.inl).map kV = (n.map V.int : List V) := by
  rw [List.map_map]
  rfl
omit [TabSet] in
theorem inl_inj : ∀ {n m : List Int}, (n.map Sum.inl : List Key) = m.map Sum.inl → n = m
  | [], [], _ => rfl
  | [], _ :: _, h => by cases h
  | _ :: _, [], h => by cases h
  | a :: n, b :: m, h => by
    rw [List.map_cons, List.map_cons] at h
    injection h with h1 h2
    cases h1
    rw [inl_inj h2]
theorem cr_sortDT {n : Nat} (hr : Room n X.A) (hc : X.calm = true) : CallR X (.builtin "sorted") (fun vs H Q => ∃ (a : Addr) (kvs : List (List Key × V)) (kk : List (List Int)), vs = [V.ref a] ∧ Rd H a (.dT kvs) ∧ kvs.map (·.1) = kk.map (·.map Sum.inl) ∧ (∀ k ∈ kk, k ≠ []) ∧
    ∀ (bs : List Addr) ys p, (∀ b ∈ bs, ∃ ns : List Int, H b = some (.tup (ns.map V.int))) → ys.Perm (bs.map V.ref) → ys.map (keyI H) = srt leT kk → H p = none → Q (.ref p) (upd H p (.lst ys))) := by
  intro pins s σ H xs us Q I r h
  obtain ⟨a, kvs, kk, rfl, hd, hk, hne, q⟩ := h
  obtain ⟨u, rfl, rx⟩ := r.one
  cases rx
  obtain ⟨z, hs, ks, pr, o, es, ep, ho, hx, hdt, he, hn⟩ := (show ObjOk X.prog X.w H s.heap a (.dT kvs) from hd.ok I.hok)
  have l1 : es.size = ks.length := size_of_entries he
  have l2 : kvs.length = ks.length := Paired.length pr
  refine Calls.call_function_entry PyProof.Rows.kind_sorted PyProof.Rows.plain_sorted PyProof.Rows.entry_sorted (PyProof.Rows.args_sorted1 _) ?_
  unfold Builtin.«sorted»
  refine wpAny_bind (m := checkCount "sorted" 1 1 _) (wpAny_pure ?_)
  refine wpAny_bind (PySem.W.kdu_collect (A := X.A.in1) (kdl_raw hs hx hdt) (I.ok.hd hc) ho (by omega) fun h' tk acc kp it => ?_)
  have ea : acc.toList = ks.map fun x => Value.ref x.2.1 := by
    have hl : acc.toList.length = ks.length := by rw [Array.length_toList, it.1]; exact l1
    apply List.ext_getElem?
    intro j
    rw [List.getElem?_map]
    cases hj : acc.toList[j]? with
    | none =>
      have h1 := List.getElem?_eq_none_iff.mp hj
      rw [List.getElem?_eq_none (by omega)]
      all_goals rfl
    | some v =>
      obtain ⟨en, hen, hv⟩ := it.2 j v (by rw [← Array.getElem?_toList]; exact hj)
      have qe := entry_at he j
      rw [hen] at qe
      cases hb : ks[j]? with
      | none =>
        rw [hb] at qe
        exact nomatch (show some en = none from qe)
      | some b =>
        rw [hb] at qe
        have e2 : en = entryOfKey (tupleKind (mixKind X.prog X.w)) b := Option.some.inj qe
        rw [hv, e2]
        all_goals rfl
  have eb : acc.toList = (ks.map fun x => x.2.1).map Value.ref := by rw [ea, List.map_map]; all_goals rfl
  have hL : acc.toList.length ≤ sizeLine := by rw [ea, List.length_map]; omega
  have I1 : Inv X pins σ H { s with heap := h', toks := tk } := I.kept kp
  have pk := isKeys_of pr
  have hbs : ∀ b ∈ ks.map (fun x => x.2.1), ∃ k ∈ kk, H b = some (.tup (k.map V.int)) := fun b hb => by
    obtain ⟨p, hp, q1⟩ := pair_mem pk b hb
    have : p.1 ∈ kvs.map (·.1) := List.mem_map.mpr ⟨p, hp, rfl⟩
    rw [hk] at this
    obtain ⟨k, hkk, e⟩ := List.mem_map.mp this
    refine ⟨k, hkk, ?_⟩
    rw [q1, ← e, keys_int]
  have kI : ∀ {b : Addr} {k : List Int}, H b = some (.tup (k.map V.int)) → keyI H (.ref b) = k := fun h => keyI_eq (.tup h (dqa_of_ints H _))
  have hkeys : ((ks.map fun x => x.2.1).map V.ref).map (keyI H) = kk := by
    have e1 : kvs.map (fun p => p.1) = (ks.map fun x => x.2.1).map (fun b => (keyI H (.ref b)).map Sum.inl) := by
      have hmem : ∀ p ∈ kvs, ∃ k : List Int, p.1 = k.map Sum.inl := fun p hp => by
        have : p.1 ∈ kvs.map (·.1) := List.mem_map.mpr ⟨p, hp, rfl⟩
        rw [hk] at this
        obtain ⟨k, _, e⟩ := List.mem_map.mp this
        exact ⟨k, e.symm⟩
      have : ∀ {xs : List (List Key × V)} {ys : List Addr}, Paired (fun p b => H b = some (.tup (p.1.map kV))) xs ys → (∀ p ∈ xs, ∃ k : List Int, p.1 = k.map Sum.inl) → xs.map (fun p => p.1) = ys.map (fun b => (keyI H (.ref b)).map Sum.inl) := by
        intro xs ys hp
        induction hp with
        | nil => intro _; rfl
        | cons r t ih =>
          intro hm
          rw [List.map_cons, List.map_cons, ih fun p hp => hm p (List.mem_cons_of_mem _ hp)]
          obtain ⟨k, e⟩ := hm _ (List.mem_cons_self ..)
          rw [e, keys_int] at r
          rw [kI r, e]
      exact this pk hmem
    rw [hk] at e1
    have e2 : kk = (ks.map fun x => x.2.1).map fun b => keyI H (.ref b) := by
      have : ∀ {xs ys : List (List Int)}, xs.map (fun k => (k.map Sum.inl : List Key)) = ys.map (fun k => (k.map Sum.inl : List Key)) → xs = ys := by
        intro xs
        induction xs with
        | nil => intro ys h; cases ys with
          | nil => rfl
          | cons _ _ => cases h
        | cons x xs ih => intro ys h; cases ys with
          | nil => cases h
          | cons y ys =>
            rw [List.map_cons, List.map_cons] at h
            injection h with h1 h2
            rw [inl_inj h1, ih h2]
      refine this ?_
      rw [e1]
      simp only [List.map_map]
      rfl
    rw [List.map_map]
    exact e2.symm
  refine wpAny_bind (wpAny_newList ?_ (by exact hL))
  have hoL : (h'.push (seqObj "list" acc.toList.toArray 0)).get? h'.objs.size = some (seqObj "list" acc.toList.toArray 0) := Heap.get?_push_size _ rfl
  show wpAny _ _ _ _ _ { s with heap := h'.push (seqObj "list" acc.toList.toArray 0), toks := tk }
  have mem : ∀ v ∈ acc.toList, ∃ b, v = Value.ref b ∧ ∃ k ∈ kk, H b = some (.tup (k.map V.int)) := fun v hv => by
    rw [eb] at hv
    obtain ⟨b, hb, rfl⟩ := List.mem_map.mp hv
    exact ⟨b, rfl, hbs b hb⟩
  have rd : ∀ v ∈ acc.toList, ∃ as, Reads (h'.push (seqObj "list" acc.toList.toArray 0)) v (.tuple ((keyI H (backV v)).map .int)) as ∧ h'.objs.size ∉ as := fun v hv => by
    obtain ⟨b, rfl, k, _, hb⟩ := mem v hv
    obtain ⟨_, its2, r2, o2, g, c, n2, d⟩ := I1.hok _ _ hb
    have ra : ∀ {us : List Value} {ns : List Int}, IntsAre us ns → ∃ as, ReadsAll (h'.push (seqObj "list" acc.toList.toArray 0)) us (ns.map PyData.int) as ∧ h'.objs.size ∉ as := by
      intro us ns hh
      induction hh with
      | nil => exact ⟨_, .nil, by simp⟩
      | cons n t r ih =>
        obtain ⟨as, q1, q2⟩ := ih
        exact ⟨_, .cons (.int n t) q1, by simpa using q2⟩
    obtain ⟨as, r1, r3⟩ := ra r2.ints
    have hlt : b < h'.objs.size := Heap.lt_size g
    have e1 : keyI H (backV (Value.ref b)) = k := kI hb
    rw [e1]
    exact ⟨_, .tuple (Heap.get?_push_of_some _ g) c d r1, r3⟩
  refine wpAny_bind (wpAny_holding (PySem.W.list_sort_data (s := { s with heap := h'.push (seqObj "list" acc.toList.toArray 0), toks := tk }) (enc := fun v => .tuple ((keyI H (backV v)).map .int)) (R := fun a b => a = b) hoL (each_self fun _ _ => rfl) (each_self rd) (fun d hd d' hd' => ?_) (.inl fun d hd => ?_) hL (fun b hb => ?_) fun out lo eo => ?_))
  · obtain ⟨b, _, rfl⟩ := List.mem_map.mp hd
    obtain ⟨b', _, rfl⟩ := List.mem_map.mp hd'
    show PySem.W.alikeAll _ _ = true
    exact PySem.W.alike_ints _ _
  · obtain ⟨b, hb, rfl⟩ := List.mem_map.mp hd
    obtain ⟨c, rfl, k, hk1, hk2⟩ := mem b hb
    have e1 : keyI H (backV (Value.ref c)) = k := kI hk2
    obtain ⟨m, ms, e⟩ := List.exists_cons_of_ne_nil (hne k hk1)
    exact ⟨.int m, ms.map .int, by simp only [e1, e, List.map_cons]⟩
  · have := hr.un
    have z : PyData.depth (.tuple ((keyI H (backV b)).map .int)) ≤ 1 := by
      rw [PyData.depth, PySem.W.depth_ints]
      omega
    have : X.A.in1.units = X.A.units + 1 := rfl
    omega
  · have eo := each_eq eo
    rw [le_tups] at eo
    have tr : ∀ a b c : Value, leT (keyI H (backV a)) (keyI H (backV b)) = true → leT (keyI H (backV b)) (keyI H (backV c)) = true → leT (keyI H (backV a)) (keyI H (backV c)) = true := fun a b c => leT_tr _ _ _
    have tot : ∀ a b : Value, (leT (keyI H (backV a)) (keyI H (backV b)) || leT (keyI H (backV b)) (keyI H (backV a))) = true := fun a b => by
      rw [Bool.or_eq_true]
      exact leT_tot _ _
    have pm : out.Perm acc.toList := by
      rw [eo]
      exact List.mergeSort_perm ..
    have pw : out.Pairwise fun a b => leT (keyI H (backV a)) (keyI H (backV b)) = true := by
      rw [eo]
      exact List.pairwise_mergeSort tr tot _
    have h3 : ∀ u ∈ out, ∃ a, u = Value.ref a := fun u hu => by
      obtain ⟨b, e, _⟩ := mem u (pm.mem_iff.mp hu)
      exact ⟨b, e⟩
    obtain ⟨e', he'⟩ := PyProof.Rows.sortedHeap_at (vs := acc.toList) (out := out.toArray) hoL
    have hp : (out.map backV).Perm ((ks.map fun x => x.2.1).map V.ref) := by
      refine (pm.map backV).trans ?_
      rw [eb, List.map_map]
      exact .refl _
    have hkk : (out.map backV).map (keyI H) = srt leT kk := by
      refine srt_uniq leT_tot leT_tr leT_anti ((hp.map (keyI H)).trans ?_) ?_
      · rw [hkeys]
      · rw [List.map_map]
        exact List.pairwise_map.mpr pw
    have hlen : (out.map backV).length ≤ sizeLine := by
      rw [List.length_map, pm.length_eq]
      exact hL
    refine wpAny_pure ⟨_, rfl, .ref h'.objs.size, upd H h'.objs.size (.lst (out.map backV)), I1.laid (t' := tk) (fun b u e => ?_) (Nat.le_refl _)
      (show ObjOk X.prog X.w _ _ _ (.lst (out.map backV)) from ⟨hlen, out, e', vals_back h3, he'⟩), rfl, q (ks.map fun x => x.2.1) _ _ (fun b hb => ?_) hp hkk (I1.hok.fresh (Nat.le_refl _))⟩
    · have hb : b < h'.objs.size := Heap.lt_size e
      rw [PyProof.Rows.sortedHeap_old (Nat.ne_of_lt hb) (by rw [size_push']; exact Nat.lt_succ_of_lt hb)]
      exact Heap.get?_push_of_some _ e
    · obtain ⟨k, _, e⟩ := hbs b hb
      exact ⟨k, e⟩
/-- the keys of a dict, tuples of ints of which none is empty, in order -/
def dictTs : D → Option (List (List Int))
  | .dict ((.none, .none) :: r) => tupsD (r.map (·.1))
  | _ => none
/-- sorted: also of a dict with tuples as keys -/
def uSort3 (d : D) : Option D := match uSort2 d with
  | some r => some r
  | none => (dictTs d).bind fun nss => if nss.all (fun ns => !ns.isEmpty) = true then some (.list ((srt leT nss).map tI)) else none
omit [TabSet] in
theorem keys_of_ints : ∀ {kk : List (List Key × D)} {nss : List (List Int)}, tupsD (kk.map fun p => keysD p.1) = some nss → kk.map (·.1) = nss.map (·.map Sum.inl)
  | [], nss, h => by cases h; rfl
  | (k, d) :: r, nss, h => by
    rw [List.map_cons] at h
    simp only [keysD, tupsD] at h
    split at h
    · rename_i ns nss' h1 h2
      cases h
      rw [List.map_cons, List.map_cons, keys_of_ints h2]
      have e := intsD_eq h1
      have : k = ns.map Sum.inl := by
        clear h1 h2
        induction k generalizing ns with
        | nil => cases ns with
          | nil => rfl
          | cons _ _ => cases e
        | cons a k ih => cases ns with
          | nil => cases e
          | cons n ns =>
            rw [List.map_cons, List.map_cons] at e
            injection e with e1 e2
            rw [List.map_cons, ih ns e2]
            cases a with
            | inl i => cases e1; rfl
            | inr x => cases e1
      rw [this]
    · cases h
theorem dsh_dictT {S H : Hp} {v : V} {d : D} {nss : List (List Int)} (h : Dsh S H v d) (hd : dictTs d = some nss) : ∃ a kvs, v = .ref a ∧ H a = some (.dT kvs) ∧ kvs.map (·.1) = nss.map (·.map Sum.inl) := by
  unfold dictTs at hd
  split at hd
  · rename_i r
    obtain ⟨a, o, e, e1, e2⟩ := h
    rcases e2 with ⟨kws, kk, e3, e4, e5⟩ | ⟨kws, kk, e3, e4, e5⟩
    · exfalso
      cases kk with
      | nil => cases e4
      | cons p kk =>
        obtain ⟨k, d⟩ := p
        simp only [kD, List.map_cons] at e4
        injection e4 with e6 e7
        injection e6 with e8 e9
        cases k <;> cases e8
    · unfold tD at e4
      injection e4 with e6 e7
      subst e7
      subst e3
      refine ⟨a, kws, e, e1, ?_⟩
      rw [e5.1]
      refine keys_of_ints ?_
      rw [List.map_map] at hd
      exact hd
  · cases hd
variable {F : Fr} {a : Expr} {f : M} {pos : Pos}
theorem e_sort3 {n : Nat} {pp : Pos} (hr : Room n X.A) (hc : X.calm = true) (hm : X.mg "sorted" = none) (ha : PE X a (SX X.K F f)) (hg : Gl X "sorted" := by rfl) (he : starEach (a :: []) X.env = (false, eval a X.env) :: starEach [] X.env := by rfl) (hpl : (backTo pos (starEach [] X.env)).any (·.1) = false := by rfl) :
    PE X (.Call (.Name "sorted" pp) [a] [] pos) (SE X.K F (f1 uSort3 f)) := by
  refine pe_of fun S δ d δ' σ H Q R hf q => ?_
  obtain ⟨d0, h1, h2⟩ := f1_of hf
  unfold uSort3 at h2
  split at h2
  · rename_i r hu
    cases h2
    exact ⟨_, e_sort2 hr hm ha hg he hpl, S, δ, d, δ', R, by rw [f1, h1]; simp [hu], q⟩
  · obtain ⟨nss, h3, h4⟩ := Option.bind_eq_some_iff.mp h2
    split at h4
    · rename_i hne
      cases h4
      refine ⟨_, pe_callB (cr_sortDT hr hc) hg hm PyProof.Rows.boot_sorted (pa_cons ha pa_nil he) (he := he) (hpl := hpl), ?_⟩
      refine ⟨S, δ, _, δ', R, h1, fun v S1 H1 s1 R1 d1 => ?_⟩
      obtain ⟨p1, kvs, rfl, e1, e2⟩ := dsh_dictT d1 h3
      refine ⟨p1, kvs, nss, rfl, Rd.of e1, e2, fun k hk z => ?_, fun bs ys p hb y1 y2 hp => ?_⟩
      · have := List.all_eq_true.mp hne _ hk
        rw [z] at this
        cases this
      · have g := addK_grow R1.sub (bs := bs) fun b hm => by
          obtain ⟨ns, e⟩ := hb b hm
          exact ⟨_, e⟩
        have hk : ∀ y ∈ ys, ∃ ns, Dq (addK S1 H1 bs) y (tI ns) := fun y hy => by
          have := y1.mem_iff.mp hy
          obtain ⟨b, hbm, rfl⟩ := List.mem_map.mp this
          obtain ⟨ns, e⟩ := hb b hbm
          exact ⟨ns, .tup (addK_in hbm e) (dqa_of_ints _ _)⟩
        have ke : ys.map (keyI (addK S1 H1 bs)) = ys.map (keyI H1) := by
          refine List.map_congr_left fun y hy => ?_
          obtain ⟨ns, dq⟩ := hk y hy
          rw [keyI_eq dq, keyI_eq (dq_ext g.sub dq)]
        have dy := dqa_keys (S := addK S1 H1 bs) (ys := ys) hk
        rw [ke, y2] at dy
        obtain ⟨g4, g5⟩ := grow_lst g.sub hp dy
        exact q _ _ _ ((s1.trans (Stp.grow g)).trans (Stp.grow g4)) ((R1.grow g).grow g4) g5
    · cases h4
end
end Pd

/-! a value and an own thing at once where a name is read by a text within; pop(). -/
namespace Pd
open PySem PySem.Spec PyProof.Rows L2
open Evl (Ex)
section
variable [TabSet]
variable {X : Cx} {F : Fr} {e a b c tg : Expr} {pos p : Pos} {f g h : M} {x y : Str} {fo go : MO'} {W : WX}
variable {i j : Nat} {px py pt : Pos}
theorem s_parEBc {kt k2 pt2} (hc : X.calm = true) (hN : X.N.Nodup) (ha : PE X a (SE X.K F g)) (hb : PE X b (SFO X.K F fo)) (hi : X.N[i]? = some x := by rfl) (hj : X.N[j]? = some y := by rfl)
    (hx : Loc X.env.scope x := by first | exact Or.inl rfl | exact Or.inr rfl) (hy : Loc X.env.scope y := by first | exact Or.inl rfl | exact Or.inr rfl)
    (fx : X.fn x = true ∨ X.env.scope.names.lookup x = some .local := by first | exact .inl rfl | exact .inr rfl) (fy : X.fn y = true ∨ X.env.scope.names.lookup y = some .local := by first | exact .inl rfl | exact .inr rfl)
    (he : starEach (a :: [b]) X.env = (false, eval a X.env) :: starEach [b] X.env := by rfl) (he2 : starEach (b :: []) X.env = (false, eval b X.env) :: starEach [] X.env := by rfl)
    (ht : (assignEach [.Name x px, .Name y py] X.env).length = 2 := by rfl) (hst : (assignEach [.Name x px, .Name y py] X.env).findIdx? (·.1) = none := by rfl)
    (hn1 : assignEach (.Name x px :: [.Name y py]) X.env = (false, assign (.Name x px) X.env) :: assignEach [.Name y py] X.env := by rfl) (hn2 : assignEach (.Name y py :: []) X.env = (false, assign (.Name y py) X.env) :: assignEach [] X.env := by rfl)
    (hs : swapsWithSole [.Tuple [.Name x px, .Name y py] kt pt] (.Tuple [a, b] k2 pt2) pos.line X.env = pure false := by rfl) (hw : swappedStores [.Tuple [.Name x px, .Name y py] kt pt] (.Tuple [a, b] k2 pt2) X.env = pure none := by rfl)
    (h1 : (assignEach [.Tuple [.Name x px, .Name y py] kt pt] X.env).map (·.2) = [assign (.Tuple [.Name x px, .Name y py] kt pt) X.env] := by rfl) :
    PS X (.Assign [.Tuple [.Name x px, .Name y py] kt pt] (.Tuple [a, b] k2 pt2) pos) (SS X.K X.mg F W (sParEB i j g fo)) := ps_of (ps_asg (pe_tup (pa_cons ha (pa_cons hb pa_nil he2) he)) (pg_tup hc (pgs_cons (pg_name hN hi hx fx) (pgs_cons (pg_name hN hj hy fy) pgs_nil)) ht hst) hs hw h1) fun Z σ H hw => by
  obtain ⟨S, δ, o, R, hf, q⟩ := hw
  unfold sParEB at hf
  split at hf
  · rename_i d δ1 h1
    split at hf
    · rename_i ob δ2 h2
      split at hf
      · rename_i h0
        cases hf
        refine ⟨S, δ, d, _, R, h1, fun v S1 H1 s1 R1 d1 => ⟨S1, δ1, _, δ2, R1, h2, fun a1 o1 S2 H2 s2 R2 m0 m1 e2 d2 => ⟨by show 2 ≤ sizeLine; decide, fun p hp => ?_⟩⟩⟩
        obtain ⟨y1, y2, y3⟩ := own_new R1 s2 m0
        obtain ⟨R3, s3, n3⟩ := lay_fresh (o := .tup [v, .ref a1]) R2 hp
        have e3 := s3.keep _ _ e2 (ob_nt d2) y3
        have R4 := R3.set_sh (dq_ext s2.s d1) i (free0_of h0.1)
        have R5 := R4.set_ow (a := a1) m1 (.inl y1) e3 d2 (own_setS y3) j (fun z xs w => by
          subst z
          rw [List.getElem?_set_ne h0.2.2] at w
          exact free0_of h0.2.1 rfl xs w)
        exact ⟨p, _, rfl, SqT.of upd_same, rfl, _, _, rfl, _, _, rfl, rfl, q _ S2 _ (s1.s.trans (s2.trans s3).s) R5⟩
      · cases hf
    · cases hf
  · cases hf
/-- the last of an own list, taken away -/
def fPop0 (i : Nat) : M := fun δ => match δ[i]? with
  | some (.ow (.lst xs)) => match xs[xs.length - 1]? with
    | some d => some (d, δ.set i (.ow xs.dropLast))
    | none => none
  | _ => none
omit [TabSet] in
theorem dqa_dropLast {S : Hp} {vs : List V} {ds : List D} (h : DqAll S vs ds) : DqAll S vs.dropLast ds.dropLast := by
  rw [List.dropLast_eq_take, List.dropLast_eq_take, dqa_len h]
  exact dqa_take _ h
theorem e_pop0 {i : Nat} {py apos : Pos} (hN : X.N[i]? = some x := by rfl) (hv : Vis X.env.scope x := by first | exact Or.inl rfl | exact Or.inr (Or.inl rfl) | exact Or.inr (Or.inr rfl)) (hd : (x == ("__debug__" : Str)) = false := by decide)
    (hcd : (x == ("__classdict__" : Str)) = false := by decide) (hbase : attributeBase (.Name x py) "pop" X.env (eval (.Name x py) X.env) = eval (.Name x py) X.env := by rfl)
    (hline : (apos.endLine == pos.line) = true := by rfl) :
    PE X (.Call (.Attribute (.Name x py) "pop" apos) [] [] pos) (SE X.K F (fPop0 i)) :=
  pe_of fun S δ d δ' σ H Q R hf q => ⟨_, pe_bm0 PySem.F.plainAttrs_list PySem.F.slot_list_pop PySem.F.type_list_pop mt_pop (pe_var hN hv hd hcd) (hbase := hbase) (hline := hline), by
    unfold fPop0 at hf
    split at hf
    · rename_i xs h2
      split at hf
      · rename_i z h4
        cases hf
        obtain ⟨a0, vs, ea0, w2, w3, w4⟩ := ow_addr R h2
        obtain ⟨y, y1, y2⟩ := dqa_get' w4 h4
        have hlen := dqa_len w4
        refine ⟨.ref a0, ea0, .inl ⟨rfl, _, SqL.of w3⟩, a0, vs, y, rfl, rfl, w3, by rw [hlen]; exact y1, ?_⟩
        have R2 := R.mut h2 ea0 (dqa_dropLast w4)
        refine q y S _ ⟨Ex.refl S, fun _ _ _ => rfl, fun b o hb nt nb => ?_, fun b o hb => ?_, fun m us g => ?_, fun t => ⟨tabs_lst t.1 w3, t.2⟩⟩ R2 y2
        · rw [upd_ne (fun z => nb ⟨i, xs, h2, by rw [z]; exact ea0⟩)]; exact hb
        · by_cases hba : b = a0
          · subst hba; exact ⟨_, upd_same⟩
          · exact ⟨o, by rw [upd_ne hba]; exact hb⟩
        · by_cases hm : i = m
          · subst hm; exact ⟨xs, h2⟩
          · rw [List.getElem?_set_ne hm] at g; exact ⟨us, g⟩
      · cases hf
    · cases hf⟩
end
@[simp] theorem wp_fPop0 {i : Nat} {δ : DE} {Q : D × DE → Prop} : Wp (fPop0 i δ) Q ↔ ∃ (xs : List D) (d : D), δ[i]? = some (.ow (.lst (xs ++ [d]))) ∧ Q (d, δ.set i (.ow xs)) := by
  unfold fPop0
  rcases hx : δ[i]? with _ | s
  · simp
  rcases s with _ | d | (xs | kvs) | ns
  · simp
  · simp
  · rcases List.eq_nil_or_concat xs with rfl | ⟨ys, y, rfl⟩
    · simp
    · simp
      constructor
      · intro h
        exact ⟨ys, y, ⟨rfl, rfl⟩, h⟩
      · rintro ⟨zs, z, ⟨rfl, rfl⟩, h⟩
        exact h
  · simp
  · simp
end Pd

/-! an own list, lent to be read while an expression runs, and one's own again behind it. -/
namespace Pd
open PySem PySem.Spec PyProof.Rows L2
open Evl (Ex)
mutual
def ht : D → Nat
  | .list ds => hts ds + 1
  | .tuple ds => hts ds + 1
  | .dict kvs => htk kvs + 1
  | _ => 0
def hts : List D → Nat
  | [] => 0
  | d :: r => max (ht d) (hts r)
def htk : List (D × D) → Nat
  | [] => 0
  | (_, v) :: r => max (ht v) (htk r)
end
theorem htk_map {α : Type} (f : α → D) (g : α → D) : ∀ l : List α, htk (l.map fun p => (f p, g p)) = hts (l.map g)
  | [] => rfl
  | p :: l => by
    rw [List.map_cons, List.map_cons, htk, hts, htk_map f g l]
mutual
theorem dq_det {H : Hp} : ∀ {v : V} {d d' : D}, Dq H v d → Dq H v d' → d = d'
  | _, _, _, .non, h => by cases h; rfl
  | _, _, _, .bl b, h => by cases h; rfl
  | _, _, _, .int i, h => by cases h; rfl
  | _, _, _, .str x, h => by cases h; rfl
  | _, _, _, .lst e a, h => by
    cases h with
    | lst e' a' => rw [e] at e'; cases e'; rw [dqa_det a a']
    | tup e' a' => rw [e] at e'; cases e'
    | dcK e' _ _ => rw [e] at e'; cases e'
    | dcT e' _ _ => rw [e] at e'; cases e'
  | _, _, _, .tup e a, h => by
    cases h with
    | tup e' a' => rw [e] at e'; cases e'; rw [dqa_det a a']
    | lst e' a' => rw [e] at e'; cases e'
    | dcK e' _ _ => rw [e] at e'; cases e'
    | dcT e' _ _ => rw [e] at e'; cases e'
  | _, _, _, .dcK (kvs := kk) e k a, h => by
    cases h with
    | dcK e' k' a' =>
      rw [e] at e'; cases e'
      have h1 := k.symm.trans k'
      have h2 := dqa_det a a'
      rw [dc_eq h1 h2]
    | tup e' a' => rw [e] at e'; cases e'
    | lst e' a' => rw [e] at e'; cases e'
    | dcT e' _ _ => rw [e] at e'; cases e'
  | _, _, _, .dcT e k a, h => by
    cases h with
    | dcT e' k' a' =>
      rw [e] at e'; cases e'
      have h1 := k.symm.trans k'
      have h2 := dqa_det a a'
      rw [dc_eq h1 h2]
    | tup e' a' => rw [e] at e'; cases e'
    | lst e' a' => rw [e] at e'; cases e'
    | dcK e' _ _ => rw [e] at e'; cases e'
theorem dqa_det {H : Hp} : ∀ {vs : List V} {ds ds' : List D}, DqAll H vs ds → DqAll H vs ds' → ds = ds'
  | _, _, _, .nil, h => by cases h; rfl
  | _, _, _, .cons a t, h => by
    cases h with
    | cons a' t' => rw [dq_det a a', dqa_det t t']
theorem dc_eq {κ : Type} : ∀ {kk kk' : List (κ × D)}, kk.map (·.1) = kk'.map (·.1) → kk.map (·.2) = kk'.map (·.2) → kk = kk'
  | [], [], _, _ => rfl
  | [], _ :: _, h, _ => by cases h
  | _ :: _, [], h, _ => by cases h
  | (k, v) :: r, (k', v') :: r', h1, h2 => by
    simp only [List.map_cons, List.cons.injEq] at h1 h2
    rw [h1.1, h2.1, dc_eq h1.2 h2.2]
end
/-- what is shared, one thing taken out -/
def rmS (S : Hp) (a : Addr) : Hp := fun b => if b = a then none else S b
theorem rmS_ne {S : Hp} {a b : Addr} (h : b ≠ a) : rmS S a b = S b := by unfold rmS; rw [if_neg h]
theorem rmS_same {S : Hp} {a : Addr} : rmS S a a = none := by unfold rmS; rw [if_pos rfl]
mutual
theorem dq_rm {S : Hp} {a : Addr} {vs0 : List V} {xs0 : List D} (h0 : S a = some (.lst vs0)) (d0 : DqAll S vs0 xs0) : ∀ {v : V} {d : D}, Dq S v d → ht d ≤ hts xs0 → Dq (rmS S a) v d
  | _, _, .non, _ => .non
  | _, _, .bl b, _ => .bl b
  | _, _, .int i, _ => .int i
  | _, _, .str x, _ => .str x
  | _, _, .lst (a := b) (ds := ds) e q, h => by
    rw [ht] at h
    have hb : b ≠ a := fun z => by
      subst z
      rw [h0] at e
      cases e
      rw [dqa_det q d0] at h
      omega
    exact .lst ((rmS_ne hb).trans e) (dqa_rm h0 d0 q (by omega))
  | _, _, .tup (a := b) e q, h => by
    rw [ht] at h
    have hb : b ≠ a := fun z => by
      subst z
      rw [h0] at e
      cases e
    exact .tup ((rmS_ne hb).trans e) (dqa_rm h0 d0 q (by omega))
  | _, _, .dcK (a := b) (kvs := kk) e k q, h => by
    have hb : b ≠ a := fun z => by
      subst z
      rw [h0] at e
      cases e
    have hk := htk_map (fun p : Key × D => keyD p.1) (fun p => p.2) kk
    rw [ht, kD, hk] at h
    exact .dcK ((rmS_ne hb).trans e) k (dqa_rm h0 d0 q (by omega))
  | _, _, .dcT (a := b) (kvs := kk) e k q, h => by
    have hb : b ≠ a := fun z => by
      subst z
      rw [h0] at e
      cases e
    have hk := htk_map (fun p : List Key × D => keysD p.1) (fun p => p.2) kk
    rw [ht, tD, htk, hk] at h
    exact .dcT ((rmS_ne hb).trans e) k (dqa_rm h0 d0 q (by omega))
theorem dqa_rm {S : Hp} {a : Addr} {vs0 : List V} {xs0 : List D} (h0 : S a = some (.lst vs0)) (d0 : DqAll S vs0 xs0) : ∀ {vs : List V} {ds : List D}, DqAll S vs ds → hts ds ≤ hts xs0 → DqAll (rmS S a) vs ds
  | _, _, .nil, _ => .nil
  | _, _, .cons q t, h => by
    rw [hts] at h
    exact .cons (dq_rm h0 d0 q (by omega)) (dqa_rm h0 d0 t (by omega))
end
/-- slots that hold nothing of a list that was lent -/
def cleanS (n : Nat) (s s' : Slot) : Bool := match s, s' with
  | .sh _, .sh _ => true
  | _, .sh d => decide (ht d ≤ n)
  | _, .no => true
  | .scr a, .scr b => decide (a = b)
  | _, .ow (.lst ys) => decide (hts ys ≤ n)
  | _, .ow (.dct kvs) => decide (htk kvs ≤ n)
  | _, _ => false
def cleanL (n i : Nat) (δ δ' : DE) : Bool := decide (δ.length = δ'.length) && ((δ.zip δ').zipIdx.all fun p => p.2 == i || cleanS n p.1.1 p.1.2)
theorem cleanL_at {n i : Nat} {δ δ' : DE} (h : cleanL n i δ δ' = true) {j : Nat} (hj : j ≠ i) {s s' : Slot} (e : δ[j]? = some s) (e' : δ'[j]? = some s') : cleanS n s s' = true := by
  unfold cleanL at h
  rw [Bool.and_eq_true] at h
  have h2 := List.all_eq_true.mp h.2 ((s, s'), j) (by
    rw [List.mem_zipIdx_iff_getElem?]
    show (δ.zip δ')[j]? = some (s, s')
    rw [List.getElem?_zip_eq_some]
    exact ⟨e, e'⟩)
  simpa [hj] using h2
def isSh : Option Slot → Bool
  | some (.sh _) => true
  | _ => false
def fLend (i : Nat) (f : M) : M := fun δ => match δ[i]? with
  | some (.ow (.lst xs)) => match f (δ.set i (.sh (.list xs))) with
    | some (d, δ') => if i ≠ 0 ∧ ht d ≤ hts xs ∧ cleanL (hts xs) i δ δ' = true ∧ isSh δ'[i]? = true then some (d, δ'.set i (.ow (.lst xs))) else none
    | none => none
  | _ => none
section
variable [TabSet] {X : Cx} {F : Fr} {e : Expr} {f : M}
theorem e_lend {i : Nat} (he : PE X e (SE X.K F f)) : PE X e (SE X.K F (fLend i f)) := by
  refine pe_of fun S δ d δ'' σ H Q R hf q => ⟨_, he, ?_⟩
  unfold fLend at hf
  split at hf
  · rename_i xs hi
    split at hf
    · rename_i d1 δ' h1
      split at hf
      · rename_i hc
        cases hf
        obtain ⟨hi0, hd, hcl, hs⟩ := hc
        obtain ⟨a, vs, S1, hx, e3, ex1, rfl, e4, e1, R1⟩ := R.give hi hi0
        have S1a : upd S a (.lst vs) a = some (.lst vs) := upd_same
        refine ⟨_, _, d, δ', R1, h1, fun v S2 H2 s2 R2 dv => ?_⟩
        have no : ¬ Own σ (δ.set i (.sh (.list xs))) a := fun ⟨j, ys, o1, o2⟩ => by
          by_cases hj : i = j
          · subst hj
            rw [List.getElem?_set_self (List.getElem?_eq_some_iff.mp hi).1] at o1
            cases o1
          · rw [List.getElem?_set_ne hj] at o1
            exact hj (R.sep i j a _ ys hi o1 hx o2)
        have H2a : H2 a = some (.lst vs) := s2.keep a _ e3 nt_lst no
        have S2a : S2 a = some (.lst vs) := s2.s a _ S1a
        have d2 : DqAll S2 vs xs := dqa_ext (ex1.trans s2.s) e4
        have ex3 : Ex S (rmS S2 a) := fun b o hb => by
          have hba : b ≠ a := fun z => by rw [z, e1] at hb; cases hb
          rw [rmS_ne hba]
          exact s2.s b o (ex1 b o hb)
        have sub3 : Ex (rmS S2 a) H2 := fun b o hb => by
          by_cases hba : b = a
          · rw [hba, rmS_same] at hb; cases hb
          · rw [rmS_ne hba] at hb; exact R2.sub b o hb
        have il : i < δ'.length := by
          unfold isSh at hs
          split at hs
          · rename_i z
            exact (List.getElem?_eq_some_iff.mp z).1
          · cases hs
        have hio : F.io ≠ some a := fun z => by
          obtain ⟨p1, us, p2⟩ := R.pin a z
          exact hi0 (R.sep i 0 a _ us hi p2 hx p1)
        have hH0 : F.H0 a = none := by
          obtain ⟨a', o', g0, g1, g2, g3, g4⟩ := R.slot i _ _ hx hi
          cases g0
          exact g2.resolve_right hio
        have s3 : Stp S H (rmS S2 a) H2 σ δ (δ'.set i (.ow (.lst xs))) := by
          refine ⟨ex3, fun b o hb => ?_, fun b o hb nt nn => s2.keep b o hb nt fun ⟨j, ys, o1, o2⟩ => nn ?_, s2.dom, fun m us g => ?_, fun t => ⟨(s2.tb ⟨t.1, nt_upd t.2 nt_lst⟩).1, fun b o hb => ?_⟩⟩
          · by_cases hba : b = a
            · rw [hba, rmS_same, e1]
            · rw [rmS_ne hba, s2.out b o hb, upd_ne hba]
          · by_cases hj : i = j
            · subst hj
              rw [List.getElem?_set_self (List.getElem?_eq_some_iff.mp hi).1] at o1
              cases o1
            · rw [List.getElem?_set_ne hj] at o1
              exact ⟨j, ys, o1, o2⟩
          · by_cases hm : i = m
            · subst hm; exact ⟨_, hi⟩
            · rw [List.getElem?_set_ne hm] at g
              obtain ⟨ys, g2⟩ := s2.kind m us g
              rw [List.getElem?_set_ne hm] at g2
              exact ⟨ys, g2⟩
          · by_cases hba : b = a
            · rw [hba, rmS_same] at hb; cases hb
            · rw [rmS_ne hba] at hb
              exact (s2.tb ⟨t.1, nt_upd t.2 nt_lst⟩).2 b o hb
        refine q v (rmS S2 a) H2 s3 ⟨sub3, R2.base, R2.dom0, fun t => s3.tb (R.tb0 t), R.s0.trans ex3, fun b o hb => ?_, R2.iop, by rw [List.length_set]; exact R2.len, fun j x s g1 g2 => ?_, fun j k b zs ys g1 g2 g3 g4 => ?_, fun b hb => ?_⟩ (dq_rm S2a d2 dv hd)
        · have hba : b ≠ a := fun z => by rw [z, hH0] at hb; cases hb
          rw [rmS_ne hba]
          exact R2.out b o hb
        · by_cases hj : i = j
          · subst hj
            rw [hx] at g1; cases g1
            rw [List.getElem?_set_self il] at g2; cases g2
            exact ⟨a, _, rfl, rmS_same, .inl hH0, H2a, ob_lst (dqa_ext ex3 e4)⟩
          · rw [List.getElem?_set_ne hj] at g2
            obtain ⟨s0, hs0⟩ : ∃ s0, δ[j]? = some s0 := by
              have l2 := (List.getElem?_eq_some_iff.mp g1).1
              rw [R.len] at l2
              exact ⟨_, List.getElem?_eq_getElem l2⟩
            have hcs := cleanL_at hcl (fun z => hj z.symm) hs0 g2
            have q2 := R2.slot j x s g1 g2
            have q0 := R.slot j x s0 g1 hs0
            cases s with
            | no => trivial
            | sh dd =>
              obtain ⟨w, w1, w2⟩ := q2
              refine ⟨w, w1, ?_⟩
              have low : ht dd ≤ hts xs → Dq (rmS S2 a) w dd := fun h => dq_rm S2a d2 w2 h
              cases s0 with
              | sh d0 =>
                obtain ⟨w', w1', w2'⟩ := q0
                rw [w1] at w1'
                cases w1'
                have := dq_ext ex3 w2'
                have e5 := dq_det (dq_ext (ex1.trans s2.s) w2') w2
                rw [← e5]
                exact this
              | no => exact low (by simpa [cleanS] using hcs)
              | ow _ => exact low (by simpa [cleanS] using hcs)
              | scr _ => exact low (by simpa [cleanS] using hcs)
            | scr ns =>
              obtain ⟨w, w1, w2⟩ := q2
              cases s0 with
              | scr ms =>
                obtain ⟨w', w1', w2'⟩ := q0
                rw [w1] at w1'
                cases w1'
                have e5 : ms = ns := by simpa [cleanS] using hcs
                rw [← e5]
                exact ⟨w, w1, Evl.ex_l ex3 w2'⟩
              | sh _ => simp [cleanS] at hcs
              | no => simp [cleanS] at hcs
              | ow _ => simp [cleanS] at hcs
            | ow ob =>
              obtain ⟨w, o, w0, w1, w2, w3, w4⟩ := q2
              have hw : w ≠ a := fun z => by
                subst z
                rw [S2a] at w1
                cases w1
              refine ⟨w, o, w0, (rmS_ne hw).trans w1, w2, w3, ?_⟩
              cases ob with
              | lst ys =>
                obtain ⟨us, z1, z2⟩ := w4
                refine ⟨us, z1, dqa_rm S2a d2 z2 ?_⟩
                cases s0 <;> simpa [cleanS] using hcs
              | dct kvs =>
                have hh : htk kvs ≤ hts xs := by cases s0 <;> simpa [cleanS] using hcs
                rcases w4 with ⟨kws, kk, z1, z2, z3, z4⟩ | ⟨kws, kk, z1, z2, z3, z4⟩
                · refine .inl ⟨kws, kk, z1, z2, z3, dqa_rm S2a d2 z4 ?_⟩
                  have hk := htk_map (fun p : Key × D => keyD p.1) (fun p => p.2) kk
                  rw [z2, kD, hk] at hh
                  exact hh
                · refine .inr ⟨kws, kk, z1, z2, z3, dqa_rm S2a d2 z4 ?_⟩
                  have hk := htk_map (fun p : List Key × D => keysD p.1) (fun p => p.2) kk
                  rw [z2, tD, htk, hk] at hh
                  omega
        · have nj : ∀ (m : Nat) us, (δ'.set i (.ow (.lst xs)))[m]? = some (.ow us) → ∃ us', δ[m]? = some (.ow us') := fun m us g => s3.kind m us g
          obtain ⟨u1, n1⟩ := nj j _ g1
          obtain ⟨u2, n2⟩ := nj k _ g2
          exact R.sep j k b _ _ n1 n2 g3 g4
        · obtain ⟨p1, us, p2⟩ := R2.pin b hb
          exact ⟨p1, us, by rw [List.getElem?_set_ne hi0]; exact p2⟩
      · cases hf
    · cases hf
  · cases hf
end
@[simp] theorem isSh_s {d : D} : isSh (some (.sh d)) = true := rfl
theorem w_lend {i : Nat} {f : M} {δ δ' : DE} {xs : List D} {d : D} {Q : D × DE → Prop} (h : δ[i]? = some (.ow (.lst xs))) (e : f (δ.set i (.sh (.list xs))) = some (d, δ')) (h0 : i ≠ 0) (hd : ht d ≤ hts xs) (hc : cleanL (hts xs) i δ δ' = true) (hs : isSh δ'[i]? = true) (q : Q (d, δ'.set i (.ow (.lst xs)))) : Wp (fLend i f δ) Q := by
  refine wp_of_eq ?_ q
  unfold fLend
  rw [h]
  simp only [e, hd, hc, hs, h0, ne_eq, not_false_iff, true_and, and_self, if_true]
end Pd

/-! an own list and another one, as a new list. -/
namespace Pd
open PySem PySem.Spec PyProof.Rows L2
open Evl (Ex)
def lCatO (i : Nat) (g : M) : MA := fun δ => if isLst δ i = true then match g δ with
  | some (.list ys, δ1) => match δ1[i]? with
    | some (.ow (.lst xs)) => if xs.length + ys.length ≤ 100000 then some (xs ++ ys, δ1) else none
    | _ => none
  | _ => none else none
section
variable [TabSet] {X : Cx} {F : Fr} {b : Expr} {g : M} {x : Str} {pos px : Pos}
theorem f_catO {i : Nat} (hb : PE X b (SE X.K F g)) (hN : X.N[i]? = some x := by rfl) (hv : Vis X.env.scope x := by first | exact Or.inl rfl | exact Or.inr (Or.inl rfl) | exact Or.inr (Or.inr rfl)) (hd : (x == ("__debug__" : Str)) = false := by decide)
    (hcd : (x == ("__classdict__" : Str)) = false := by decide) : PE X (.BinOp (.Name x px) .Add b pos) (SF X.K F (lCatO i g)) :=
  pf_of fun S δ ds δ' σ H Q R hf q => by
    unfold lCatO at hf
    split at hf
    · rename_i hi
      obtain ⟨zs, hz⟩ := isLst_of hi
      obtain ⟨a0, vs0, ea0, _, e0, _⟩ := ow_addr R hz
      split at hf
      · rename_i ys δ1 h1
        split at hf
        · rename_i xs h2
          split at hf
          · rename_i hc
            cases hf
            refine ⟨_, pe_op op_cat (pe_var hN hv hd hcd) hb, .ref a0, ea0, S, δ, _, _, R, h1, fun v S1 H1 s1 R1 d1 => ?_⟩
            obtain ⟨a1, vs, w1, w2, w3, w4⟩ := ow_addr R1 h2
            rw [ea0] at w1
            cases w1
            obtain ⟨p2, v2, rfl, e2, d2⟩ := dq_list d1
            refine ⟨a0, p2, vs, v2, rfl, rfl, w3, R1.sub _ _ e2, sz_of (by rw [dqa_len w4, dqa_len d2]; exact hc), fun p hp => ?_⟩
            obtain ⟨R2, s2, n2⟩ := lay_fresh (o := .lst (vs ++ v2)) R1 hp
            refine q p _ S1 _ (s1.trans s2) R2 ?_ n2 upd_same (dqa_app w4 d2)
            cases hz : H p with
            | none => rfl
            | some o =>
              obtain ⟨o', q'⟩ := s1.dom p o hz
              rw [hp] at q'
              cases q'
          · cases hf
        · cases hf
      · cases hf
    · cases hf
end
@[simp] theorem wp_lCatO {i : Nat} {g : M} {δ : DE} {Q : List D × DE → Prop} : Wp (lCatO i g δ) Q ↔ isLst δ i = true ∧ Wp (g δ) fun p => ∃ ys, p.1 = .list ys ∧ ∃ xs, p.2[i]? = some (.ow (.lst xs)) ∧ xs.length + ys.length ≤ 100000 ∧ Q (xs ++ ys, p.2) := by
  unfold lCatO
  by_cases h : isLst δ i = true <;> simp [h]
  rcases g δ with _ | ⟨x, δ1⟩
  · simp
  cases x <;> simp
  rcases δ1[i]? with _ | s
  · simp
  rcases s with _ | d | (xs | kvs) | ns <;> simp
end Pd

/-! t[:0:-1], t a tuple that is not empty. -/
namespace Pd
open PySem PySem.Spec PyProof.Rows L2 HT
open Evl (Ex)
variable [TabSet]
theorem rv0_adjust (n : Nat) (h : 1 ≤ n) : Builtin.Slice.sliceAdjust none (some 0) (-1) (n : Int) = ((n : Int) - 1, 0) := by
  unfold Builtin.Slice.sliceAdjust
  simp
  omega
theorem rv0_places (n : Nat) (h : 1 ≤ n) : Builtin.Slice.slicePlaces ((n : Int) - 1) 0 (-1) = n - 1 := by
  unfold Builtin.Slice.slicePlaces
  have h1 : ¬ ((-1 : Int) > 0) := by omega
  simp only [h1, if_false]
  have e : -(-1 : Int) = 1 := by decide
  rw [e, Int.ediv_one]
  split <;> omega
theorem rv0_pick (xs : Array Value) (h : 1 ≤ xs.size) : ((List.range (xs.size - 1)).filterMap fun (m : Nat) => xs[((xs.size : Int) - 1 + (m : Int) * (-1)).toNat]?).toArray = (xs.toList.drop 1).reverse.toArray := by
  congr 1
  have e1 := PySem.W.krv_all (xs.toList.drop 1).reverse.toArray
  rw [List.size_toArray, List.length_reverse, List.length_drop, Array.length_toList] at e1
  refine Eq.trans (fm_congr _ fun m hm => ?_) e1
  have hm' : m < xs.size - 1 := List.mem_range.mp hm
  have e2 : ((xs.size : Int) - 1 + (m : Int) * (-1)).toNat = xs.size - 1 - m := by omega
  rw [e2]
  show xs[xs.size - 1 - m]? = (xs.toList.drop 1).reverse.toArray[m]?
  refine Eq.trans ?_ (List.getElem?_toArray (xs := (xs.toList.drop 1).reverse) (i := m)).symm
  rw [List.getElem?_reverse (by rw [List.length_drop, Array.length_toList]; exact hm'), List.length_drop, Array.length_toList, List.getElem?_drop, Array.getElem?_toList]
  congr 1
  omega
section
variable {prog : Program} {w : World} {A : Around} {E : Value → Shared → Prop} {s : Shared}
theorem sliceApplied_rv0 {sl : Addr} {vu vs : Value} {n : Nat} {Q : Int × Int × Nat → Shared → Prop} (hn : 1 ≤ n) (hs : s.heap.IsSliceOf sl .none vu vs) (pu : IsPart vu (some 0)) (ps : IsPart vs (some (-1)))
    (h : Q ((n : Int) - 1, -1, n - 1) s) : wpAny (model prog w) A (Builtin.Slice.sliceApplied (.ref sl) (pure (n : Int))) Q E s := by
  obtain ⟨os, hos, hcs, hds⟩ := id hs
  unfold Builtin.Slice.sliceApplied Builtin.Slice.sliceFields
  refine wpAny_bind (wpAny_bind (wpAny_field hos hds (x := .none) rfl (wpAny_bind (wpAny_field hos hds (x := vu) rfl (wpAny_bind (wpAny_field hos hds (x := vs) rfl (wpAny_pure ?_)))))))
  refine wpAny_bind (slicePart_ ps ?_)
  show wpAny _ _ (if ((-1 : Int) == 0) = true then _ else _) _ _ s
  rw [if_neg (by decide)]
  refine wpAny_bind (slicePart_none (wpAny_bind (slicePart_ pu (wpAny_bind (wpAny_pure ?_)))))
  show wpAny _ _ (match Builtin.Slice.sliceAdjust none (some 0) (-1) (n : Int) with | (lo, hi) => pure (lo, (-1 : Int), Builtin.Slice.slicePlaces lo hi (-1))) _ _ s
  rw [rv0_adjust n hn]
  show wpAny _ _ (pure ((n : Int) - 1, (-1 : Int), Builtin.Slice.slicePlaces ((n : Int) - 1) 0 (-1))) _ _ s
  rw [rv0_places n hn]
  exact wpAny_pure h
theorem getItem_tuple_rv0 {t sl : Addr} {items : Array Value} {vu vs : Value} {Q : Value → Shared → Prop} (hn : 1 ≤ items.size) (ht : IsTup s.heap t items) (hs : s.heap.IsSliceOf sl .none vu vs) (pu : IsPart vu (some 0)) (ps : IsPart vs (some (-1)))
    (h : Q (.ref s.heap.objs.size) { s with heap := s.heap.push { cls := .type "tuple", data := .seq (items.toList.drop 1).reverse.toArray } })
    (hsz : items.size ≤ sizeLine) : wpAny (model prog w) A (getItem (.ref t) (.ref sl)) Q E s := by
  have htake : sizeOk (.seq (items.toList.drop 1).reverse.toArray) := by
    show (items.toList.drop 1).reverse.toArray.size ≤ sizeLine
    rw [List.size_toArray, List.length_reverse, List.length_drop, Array.length_toList]
    omega
  obtain ⟨os, hos, hcs, hds⟩ := id hs
  have hTs : s.TypeIs (.ref sl) "slice" := ⟨os, hos, hcs⟩
  unfold getItem
  try with_reducible refine wpAny_holding ?_
  first | refine wpAny_bind (wpAny_pure ?_) | skip
  refine wpAny_bind (wpAny_sequenceKey ht.typeIs (by decide) ?_)
  refine wpAny_bind (wpAny_callSpecial?_slot (name := Str.ofString "__getitem__") ht.typeIs PyProof.Rows.slot_tuple_getitem
    (wpAny_call_entry PyProof.Rows.slot_tuple_getitem ht.typeIs entry_tuple_getitem ?_ (args_tuple_getitem _ _)))
  show wpAny _ _ (Builtin.Tuple.tupleItemsOf (.ref t) >>= _) _ _ s
  refine wpAny_bind (tupleItemsOf_ ht ?_)
  refine wpAny_bind (wpAny_typeOf hTs ?_)
  rw [if_pos (by decide)]
  refine wpAny_bind (sliceApplied_rv0 hn hs pu ps ?_)
  have hno : ¬ ((((items.size : Int) - 1) == 0 && (-1 : Int) == 1 && (items.size - 1) == items.size) = true) := by
    rw [show ((-1 : Int) == 1) = false by decide, Bool.and_false, Bool.false_and]
    exact Bool.false_ne_true
  show wpAny _ _ (if (((items.size : Int) - 1) == 0 && (-1 : Int) == 1 && (items.size - 1) == items.size) = true then _ else _) _ _ s
  rw [if_neg hno, rv0_pick items hn]
  first
    | exact wpAny_bind (m := Builtin.Tuple.tupleExact _) (wpAny_newObj_type (wpAny_pure ⟨_, rfl, wpAny_pure h⟩) htake)
    | exact wpAny_bind (m := Builtin.Tuple.tupleExact _) (wpAny_newObj_type (wpAny_bind (wpAny_pure (wpAny_pure ⟨_, rfl, wpAny_pure h⟩))) htake)
    | exact wpAny_bind (wpAny_bind (m := Builtin.Tuple.tupleExact _) (wpAny_newObj_type (wpAny_pure (wpAny_pure ⟨_, rfl, wpAny_pure h⟩)) htake))
    | exact wpAny_bind (wpAny_bind (m := Builtin.Tuple.tupleExact _) (wpAny_newObj_type (wpAny_pure ⟨_, rfl, wpAny_pure h⟩) htake))
end
section
variable {X : Cx} {F : Fr} {e : Expr} {f : M}
theorem vals_drop : ∀ {vs : List V} {us : List Value}, Vals vs us → Vals (vs.drop 1) (us.drop 1)
  | _, _, .nil => .nil
  | _, _, .cons _ t => t
theorem pe_rv0 {te : TE} {k k0 : Nat} {p0 p1 p2 p3 pos : Pos} (he : PE X e te) : PE X (.Subscript e (.Slice none (some (.Constant (.int 0) k0 p0)) (some (.UnaryOp .USub (.Constant (.int 1) k p1) p2)) p3) pos)
    (fun σ H Q => te σ H fun x H1 => ∃ a xs, x = .ref a ∧ xs ≠ [] ∧ SqT X.K H1 a xs ∧ ∀ p, H1 p = none → Q (.ref p) (upd H1 p (.tup (xs.drop 1).reverse))) := by
  refine ⟨fun pins s σ H Q I h => ?_⟩
  refine Subscript_ (thn (he.run pins s σ H _ I h) fun v s1 ⟨x, H1, I1, r1, q1⟩ => ?_)
  obtain ⟨a, xs, ex, hne, hx, q⟩ := q1
  subst ex
  cases r1
  have hup : PO X (some (.Constant (.int 0) k0 p0)) (tPart (tC (.int 0))) := po_some pe_int
  have hst : PO X (some (.UnaryOp .USub (.Constant (.int 1) k p1) p2)) (tPart (tUn (rU fun i => .int (-i)) (tC (.int 1)))) := po_some (pe_un un_neg pe_int)
  refine wpAny_Slice (thn (po_none.run pins s1 σ H1 (fun o H2 => o = none ∧ H2 = H1) I1 ⟨rfl, rfl⟩) fun vl s2 ⟨l, H2, I2, pl, el, e2⟩ => ?_)
  subst el e2
  refine thn (hup.run pins s2 σ H2 (fun o H3 => o = some 0 ∧ H3 = H2) I2 ⟨0, rfl, rfl, rfl⟩) fun vu s3 ⟨u, H3, I3, pu, eu, e3⟩ => ?_
  subst eu e3
  refine thn (hst.run pins s3 σ H3 (fun o H4 => o = some (-1) ∧ H4 = H3) I3 ⟨1, rfl, -1, rfl, rfl, rfl⟩) fun vs s4 ⟨o, H4, I4, ps, eo, e4⟩ => ?_
  subst eo e4
  cases pl
  have I5 : Inv X pins σ H4 { s4 with heap := s4.heap.push { cls := .type "slice", data := .fields #[.none, vu, vs] } } := I4.kept (t' := s4.toks) fun b ob q => Heap.get?_push_of_some _ q
  obtain ⟨its, r, ht, hz⟩ := I5.tuple hx
  have hlen := r.length
  have hpos : 1 ≤ its.toArray.size := by
    rw [List.size_toArray]
    have := List.length_pos_iff.mpr hne
    omega
  show wpAny (model X.prog X.w) X.A (subscriptTail e (.Slice none (some (.Constant (.int 0) k0 p0)) (some (.UnaryOp .USub (.Constant (.int 1) k p1) p2)) p3) (.ref a) (.ref s4.heap.objs.size)) (EP X pins σ Q) X.xe { s4 with heap := s4.heap.push { cls := .type "slice", data := .fields #[.none, vu, vs] } }
  refine tail_any (ops := [.ref a, .ref s4.heap.objs.size]) ht.typeIs (PyProof.Rows.slot_tuple_getitem.lookup) ?_ (by with_unfolding_all rfl)
  refine getItem_tuple_rv0 hpos ht (Heap.IsSliceOf.new _ .none vu vs) pu ps ?_ (by rw [List.size_toArray]; omega)
  refine ⟨.ref _, _, I5.laid (t' := s4.toks) (o := .tup (xs.drop 1).reverse) (fun b ob q => Heap.get?_push_of_some _ q) (Nat.le_refl _) ?_, rfl, q _ (I5.hok.fresh (Nat.le_refl _))⟩
  exact ⟨by rw [List.length_reverse, List.length_drop]; omega, _, (vals_drop r).reverse, IsTup.new _ _⟩
def fRv0 (f : M) : M := fun δ => match f δ with
  | some (.tuple ds, δ') => if ds ≠ [] then some (.tuple (ds.drop 1).reverse, δ') else none
  | _ => none
theorem e_rv0 {k k0 : Nat} {p0 p1 p2 p3 pos : Pos} (ha : PE X e (SE X.K F f)) : PE X (.Subscript e (.Slice none (some (.Constant (.int 0) k0 p0)) (some (.UnaryOp .USub (.Constant (.int 1) k p1) p2)) p3) pos) (SE X.K F (fRv0 f)) := by
  refine pe_of fun S δ d δ' σ H Q R hf q => ⟨_, pe_rv0 ha, ?_⟩
  unfold fRv0 at hf
  split at hf
  · rename_i ds δ1 h1
    split at hf
    · rename_i hne
      cases hf
      refine ⟨S, δ, _, _, R, h1, fun v S1 H1 s1 R1 d1 => ?_⟩
      obtain ⟨p1, v1, rfl, e1, d1⟩ := dq_tup d1
      refine ⟨p1, v1, rfl, fun z => hne (by subst z; cases d1; rfl), SqT.of (R1.sub _ _ e1), fun p hp => ?_⟩
      obtain ⟨g4, g5⟩ := grow_tup R1.sub hp (dqa_rev (dqa_drop 1 d1))
      exact q _ _ _ (s1.trans (Stp.grow g4)) (R1.grow g4) g5
    · cases hf
  · cases hf
omit [TabSet] in
@[simp] theorem wp_fRv0 {δ : DE} {Q : D × DE → Prop} : Wp (fRv0 f δ) Q ↔ Wp (f δ) fun p => ∃ ds, p.1 = .tuple ds ∧ ds ≠ [] ∧ Q (.tuple (ds.drop 1).reverse, p.2) := by
  unfold fRv0
  rcases f δ with _ | ⟨x, δ1⟩
  · simp
  cases x <;> simp
end
end Pd

/-! what no run comes to. -/
namespace Pd
open PySem PySem.Spec PyProof.Rows L2
def sVac : MS := fun _ => none
def fVac : M := fun _ => none
def lVac : MA := fun _ => none
section
variable [TabSet] {X : Cx} {F : Fr} {W : WX} {e : Expr} {st : Stmt}
theorem s_vac : PS X st (SS X.K X.mg F W sVac) := ⟨fun pins s σ H Z I hw => by
  obtain ⟨S, δ, o, R, hf, q⟩ := hw
  cases hf⟩
theorem e_vac : PE X e (SE X.K F fVac) := ⟨fun pins s σ H Q I hw => by
  obtain ⟨S, δ, d, δ', R, hf, q⟩ := hw
  cases hf⟩
end
@[simp] theorem wp_sVac {δ : DE} {Q : Out → Prop} : Wp (sVac δ) Q ↔ False := by simp [sVac]
@[simp] theorem wp_fVac {δ : DE} {Q : D × DE → Prop} : Wp (fVac δ) Q ↔ False := by simp [fVac]
end Pd

/-! several names at once, values and things of one's own mixed. -/
namespace Pd
open PySem PySem.Spec PyProof.Rows L2
open Evl (Ex)
/-- a value, or a new thing of one's own -/
inductive Hnd where
  | v (d : D)
  | o (ob : Ob)
@[simp] def Hnd.slot : Hnd → Slot
  | .v d => .sh d
  | .o ob => .ow ob
abbrev MH := DE → Option (List Hnd × DE)
def mNil : MH := fun δ => some ([], δ)
def mV (f : M) (r : MH) : MH := fun δ => match f δ with
  | some (d, δ1) => match r δ1 with
    | some (ms, δ2) => some (.v d :: ms, δ2)
    | none => none
  | none => none
def mO (f : MO') (r : MH) : MH := fun δ => match f δ with
  | some (ob, δ1) => match r δ1 with
    | some (ms, δ2) => some (.o ob :: ms, δ2)
    | none => none
  | none => none
@[simp] def setD (δ : DE) : List Nat → List Hnd → DE
  | i :: is, m :: ms => setD (δ.set i m.slot) is ms
  | _, _ => δ
@[simp] def setV (σ : L2.St) : List Nat → List V → L2.St
  | i :: is, x :: xs => setV (σ.set i (some x)) is xs
  | _, _ => σ
def sParM (is : List Nat) (fm : MH) : MS := fun δ => match fm δ with
  | some (ms, δ1) => if ms.length = is.length ∧ is.Nodup ∧ (∀ i ∈ is, free0 i δ1 = true) then some (.nx (setD δ1 is ms)) else none
  | none => none
section
variable [TabSet]
/-- what is at hand -/
inductive Hands (F : Fr) (Hb S H : Hp) (σ : L2.St) (δ : DE) : List V → List Hnd → Prop
  | nil : Hands F Hb S H σ δ [] []
  | v {x : V} {d : D} {xs : List V} {ms : List Hnd} (h : Dq S x d) (r : Hands F Hb S H σ δ xs ms) : Hands F Hb S H σ δ (x :: xs) (.v d :: ms)
  | o {a : Addr} {u : HO} {ob : Ob} {xs : List V} {ms : List Hnd} (nb : Hb a = none) (h0 : F.H0 a = none) (n : S a = none) (e : H a = some u) (d : ObOk S u ob) (nw : ¬ Own σ δ a) (ne : V.ref a ∉ xs) (r : Hands F Hb S H σ δ xs ms) : Hands F Hb S H σ δ (.ref a :: xs) (.o ob :: ms)
theorem Hands.len {F : Fr} {Hb S H : Hp} {σ : L2.St} {δ : DE} {xs : List V} {ms : List Hnd} (h : Hands F Hb S H σ δ xs ms) : xs.length = ms.length := by
  induction h with
  | nil => rfl
  | v _ _ ih => simp [ih]
  | o _ _ _ _ _ _ _ _ ih => simp [ih]
theorem dq_there {S : Hp} {a : Addr} {d : D} (h : Dq S (.ref a) d) : ∃ o, S a = some o := by
  cases h with
  | lst h _ => exact ⟨_, h⟩
  | tup h _ => exact ⟨_, h⟩
  | dcK h _ _ => exact ⟨_, h⟩
  | dcT h _ _ => exact ⟨_, h⟩
theorem Hands.back {F : Fr} {Hb Hb' S H : Hp} {σ : L2.St} {δ : DE} {xs : List V} {ms : List Hnd} (h : Hands F Hb S H σ δ xs ms) (k : ∀ a, Hb a = none → Hb' a = none) : Hands F Hb' S H σ δ xs ms := by
  induction h with
  | nil => exact .nil
  | v h _ ih => exact .v h ih
  | o nb h0 n e d nw ne _ ih => exact .o (k _ nb) h0 n e d nw ne ih
theorem Hands.kept {F : Fr} {Hb S H H' : Hp} {σ : L2.St} {δ : DE} {xs : List V} {ms : List Hnd} (h : Hands F Hb S H σ δ xs ms) (k : ∀ b o, H b = some o → (∀ ps, o ≠ .tbl ps) → ¬ Own σ δ b → H' b = some o) : Hands F Hb S H' σ δ xs ms := by
  induction h with
  | nil => exact .nil
  | v h _ ih => exact .v h ih
  | o nb z0 n e d nw ne _ ih => exact .o nb z0 n (k _ _ e (ob_nt d) nw) d nw ne ih
theorem Hands.notin {F : Fr} {Hb S H : Hp} {σ : L2.St} {δ : DE} {xs : List V} {ms : List Hnd} (h : Hands F Hb S H σ δ xs ms) {a : Addr} {o : HO} (k : Hb a = some o) (n : S a = none) : V.ref a ∉ xs := by
  induction h with
  | nil => simp
  | v h _ ih =>
    intro z
    rcases List.mem_cons.mp z with e | z
    · subst e
      obtain ⟨o, e⟩ := dq_there h
      rw [n] at e
      cases e
    · exact ih z
  | o nb _ _ _ _ _ _ _ ih =>
    intro z
    rcases List.mem_cons.mp z with e | z
    · cases e
      rw [k] at nb
      cases nb
    · exact ih z
theorem Stp.back {S H S' H' : Hp} {σ : L2.St} {δ δ' : DE} (s : Stp S H S' H' σ δ δ') {a : Addr} (h : H' a = none) : H a = none := by
  cases hz : H a with
  | none => rfl
  | some o =>
    obtain ⟨o', e'⟩ := s.dom a o hz
    rw [h] at e'
    cases e'
def SAm (K : PySem.W.Frag) (F : Fr) (fm : MH) : TA := fun σ H Q => ∃ S δ ms δ', RSt K F S H σ δ ∧ fm δ = some (ms, δ') ∧ ∀ vs S' H', Stp S H S' H' σ δ δ' → RSt K F S' H' σ δ' → Hands F H S' H' σ δ' vs ms → Q vs H'
variable {X : Cx} {F : Fr} {e : Expr} {es ts : List Expr} {pos p : Pos} {f : M} {fo : MO'} {fm : MH} {W : WX} {x y z : Str} {i j l : Nat}
theorem pa_imp {t t' : TA} (h : PA X es t) (w : ∀ σ H Q, t' σ H Q → t σ H Q) : PA X es t' := ⟨fun pos pins s σ H Q I hw => h.run pos pins s σ H Q I (w σ H Q hw)⟩
theorem am_nil : PA X [] (SAm X.K F mNil) := pa_imp pa_nil fun σ H Q hw => by
  obtain ⟨S, δ, ms, δ', R, hf, q⟩ := hw
  cases hf
  exact q [] S H Stp.refl R .nil
theorem am_v (he : PE X e (SE X.K F f)) (hr : PA X es (SAm X.K F fm)) (hs : starEach (e :: es) X.env = (false, eval e X.env) :: starEach es X.env := by rfl) : PA X (e :: es) (SAm X.K F (mV f fm)) := pa_imp (pa_cons he hr hs) fun σ H Q hw => by
  obtain ⟨S, δ, ms, δ', R, hf, q⟩ := hw
  unfold mV at hf
  split at hf
  · rename_i d δ1 h1
    split at hf
    · rename_i ms1 δ2 h2
      cases hf
      exact ⟨S, δ, d, δ1, R, h1, fun v S1 H1 s1 R1 d1 => ⟨S1, δ1, _, _, R1, h2, fun vs S2 H2 s2 R2 d2 => q _ S2 H2 (s1.trans s2) R2 (.v (dq_ext s2.s d1) (d2.back fun a ha => s1.back ha))⟩⟩
    · cases hf
  · cases hf
theorem am_o (he : PE X e (SFO X.K F fo)) (hr : PA X es (SAm X.K F fm)) (hs : starEach (e :: es) X.env = (false, eval e X.env) :: starEach es X.env := by rfl) : PA X (e :: es) (SAm X.K F (mO fo fm)) := pa_imp (pa_cons he hr hs) fun σ H Q hw => by
  obtain ⟨S, δ, ms, δ', R, hf, q⟩ := hw
  unfold mO at hf
  split at hf
  · rename_i ob δ1 h1
    split at hf
    · rename_i ms1 δ2 h2
      cases hf
      refine ⟨S, δ, ob, δ1, R, h1, fun a o S1 H1 s1 R1 n0 n1 e1 d1 => ⟨S1, δ1, _, _, R1, h2, fun vs S2 H2 s2 R2 d2 => q _ S2 H2 (s1.trans s2) R2 ?_⟩⟩
      obtain ⟨z1, z2, z3⟩ := own_new R s1 n0
      have e2 : H2 a = some o := s2.keep _ _ e1 (ob_nt d1) z3
      have n2 : S2 a = none := nt_none (s2.out _ _ e1) n1 R2.sub e2 (ob_ntup d1)
      have z4 : ¬ Own σ δ' a := fun q => z3 (s2.own q)
      exact .o n0 z1 n2 e2 (ob_ext s2.s d1) z4 (d2.notin e1 n2) (d2.back fun b hb => s1.back hb)
    · cases hf
  · cases hf
theorem Hands.set_v {Hb S H : Hp} {σ : L2.St} {δ : DE} {xs : List V} {ms : List Hnd} (h : Hands F Hb S H σ δ xs ms) (i : Nat) (v : V) (d : D) : Hands F Hb S H (σ.set i (some v)) (δ.set i (.sh d)) xs ms := by
  induction h with
  | nil => exact .nil
  | v h _ ih => exact .v h ih
  | o nb h0 n e d nw ne _ ih => exact .o nb h0 n e d (own_setS nw) ne ih
theorem Hands.set_o {Hb S H : Hp} {σ : L2.St} {δ : DE} {xs : List V} {ms : List Hnd} (h : Hands F Hb S H σ δ xs ms) (i : Nat) {a : Addr} (ob : Ob) (ha : V.ref a ∉ xs) : Hands F Hb S H (σ.set i (some (.ref a))) (δ.set i (.ow ob)) xs ms := by
  induction h with
  | nil => exact .nil
  | v h _ ih => exact .v h (ih fun z => ha (List.mem_cons_of_mem _ z))
  | o nb h0 n e d nw ne _ ih => exact .o nb h0 n e d (own_set nw fun z => ha (by rw [z]; exact List.mem_cons_self)) ne (ih fun z => ha (List.mem_cons_of_mem _ z))
theorem free_all {is : List Nat} {i : Nat} {s : Slot} {δ : DE} (hn : i ∉ is) (hf : ∀ j ∈ is, free0 j δ = true) : ∀ j ∈ is, free0 j (δ.set i s) = true := fun j hj => by
  have h := hf j hj
  have ne : i ≠ j := fun z => hn (z ▸ hj)
  cases j with
  | zero =>
    unfold free0 at h ⊢
    rw [List.getElem?_set_ne ne]
    exact h
  | succ j => unfold free0; rfl
theorem all_set {K : PySem.W.Frag} {Hb S H : Hp} : ∀ (is : List Nat) {σ : L2.St} {δ : DE} {xs : List V} {ms : List Hnd}, RSt K F S H σ δ → Hands F Hb S H σ δ xs ms → is.Nodup → (∀ i ∈ is, free0 i δ = true) → RSt K F S H (setV σ is xs) (setD δ is ms)
  | [], _, _, _, _, R, h, _, _ => by cases h <;> exact R
  | i :: is, _, _, _, _, R, .nil, _, _ => R
  | i :: is, _, _, _, _, R, .v (d := d) h r, nd, hf => by
    rw [List.nodup_cons] at nd
    exact all_set is (R.set_sh h i (free0_of (hf i List.mem_cons_self))) (r.set_v i _ d) nd.2 (free_all nd.1 fun j hj => hf j (List.mem_cons_of_mem _ hj))
  | i :: is, _, _, _, _, R, .o (ob := ob) nb h0 n e d nw ne r, nd, hf => by
    rw [List.nodup_cons] at nd
    exact all_set is (R.set_ow n (.inl h0) e d nw i (free0_of (hf i List.mem_cons_self))) (r.set_o i ob ne) nd.2 (free_all nd.1 fun j hj => hf j (List.mem_cons_of_mem _ hj))
/-! ### two, three names, stored at once -/
theorem s_parM2 {a b : Expr} {px py pt : Pos} {kt k2 pt2} (hc : X.calm = true) (hN : X.N.Nodup) (ha : PA X [a, b] (SAm X.K F fm)) (hw : swappedStores [.Tuple [.Name x px, .Name y py] kt pt] (.Tuple [a, b] k2 pt2) X.env = pure (some [x, y])) (hi : X.N[i]? = some x := by rfl) (hj : X.N[j]? = some y := by rfl) (hij : i ≠ j := by decide)
    (hx : X.env.scope.names.lookup x = some .local := by rfl) (hy : X.env.scope.names.lookup y = some .local := by rfl) (hs : swapsWithSole [.Tuple [.Name x px, .Name y py] kt pt] (.Tuple [a, b] k2 pt2) pos.line X.env = pure false := by rfl) :
    PS X (.Assign [.Tuple [.Name x px, .Name y py] kt pt] (.Tuple [a, b] k2 pt2) pos) (SS X.K X.mg F W (sParM [i, j] fm)) := ps_of (ps_par hc hN hi hj hij hx hy ha hw hs) fun Z σ H hw => by
  obtain ⟨S, δ, o, R, hf, q⟩ := hw
  unfold sParM at hf
  split at hf
  · rename_i ms δ1 h1
    split at hf
    · rename_i h0
      cases hf
      refine ⟨S, δ, _, _, R, h1, fun vs S1 H1 s1 R1 d1 => ?_⟩
      have hl := d1.len
      rw [h0.1] at hl
      have w := all_set [i, j] R1 d1 h0.2.1 h0.2.2
      match vs, hl with
      | [v1, v2], _ => exact ⟨_, _, rfl, q _ S1 H1 s1.s w⟩
    · cases hf
  · cases hf
theorem s_parM3 {a b c : Expr} {px py pz pt : Pos} {kt k2 pt2} (hc : X.calm = true) (hN : X.N.Nodup) (ha : PA X [a, b, c] (SAm X.K F fm)) (hw : swappedStores [.Tuple [.Name x px, .Name y py, .Name z pz] kt pt] (.Tuple [a, b, c] k2 pt2) X.env = pure (some [x, y, z]))
    (hi : X.N[i]? = some x := by rfl) (hj : X.N[j]? = some y := by rfl) (hl : X.N[l]? = some z := by rfl) (hij : i ≠ j := by decide) (hil : i ≠ l := by decide) (hjl : j ≠ l := by decide)
    (hx : X.env.scope.names.lookup x = some .local := by rfl) (hy : X.env.scope.names.lookup y = some .local := by rfl) (hz : X.env.scope.names.lookup z = some .local := by rfl)
    (hs : swapsWithSole [.Tuple [.Name x px, .Name y py, .Name z pz] kt pt] (.Tuple [a, b, c] k2 pt2) pos.line X.env = pure false := by rfl) :
    PS X (.Assign [.Tuple [.Name x px, .Name y py, .Name z pz] kt pt] (.Tuple [a, b, c] k2 pt2) pos) (SS X.K X.mg F W (sParM [i, j, l] fm)) := ps_of (ps_par3 hc hN hi hj hl hij hil hjl hx hy hz ha hw hs) fun Z σ H hw => by
  obtain ⟨S, δ, o, R, hf, q⟩ := hw
  unfold sParM at hf
  split at hf
  · rename_i ms δ1 h1
    split at hf
    · rename_i h0
      cases hf
      refine ⟨S, δ, _, _, R, h1, fun vs S1 H1 s1 R1 d1 => ?_⟩
      have hl := d1.len
      rw [h0.1] at hl
      have w := all_set [i, j, l] R1 d1 h0.2.1 h0.2.2
      match vs, hl with
      | [v1, v2, v3], _ => exact ⟨_, _, _, rfl, q _ S1 H1 s1.s w⟩
    · cases hf
  · cases hf
/-! ### any number, through a tuple -/
def gNames (is : List Nat) : TGs := fun vs σ H Q => vs.length = is.length ∧ Q (setV σ is vs) H
theorem gm_nil : PGs X [] (gNames []) := ⟨fun pins s σ H vs us Q I r h => pgs_nil.run pins s σ H vs us Q I r (by
  obtain ⟨h1, h2⟩ := h
  cases vs with
  | nil => exact ⟨rfl, h2⟩
  | cons _ _ => cases h1)⟩
theorem gm_cons {px : Pos} {is : List Nat} (hN : X.N.Nodup) (r : PGs X ts (gNames is)) (hi : X.N[i]? = some x := by rfl) (hx : Loc X.env.scope x := by first | exact Or.inl rfl | exact Or.inr rfl) (fx : X.fn x = true ∨ X.env.scope.names.lookup x = some .local := by first | exact .inl rfl | exact .inr rfl)
    (hs : (assignEach (.Name x px :: ts) X.env).map (·.2) = assign (.Name x px) X.env :: (assignEach ts X.env).map (·.2) := by rfl) : PGs X (.Name x px :: ts) (gNames (i :: is)) :=
  ⟨fun pins s σ H vs us Q I rv h => (pgs_cons (pg_name hN hi hx fx) r hs).run pins s σ H vs us Q I rv (by
    obtain ⟨h1, h2⟩ := h
    cases vs with
    | nil => cases h1
    | cons v vs => exact ⟨v, vs, rfl, by simpa using h1, h2⟩)⟩
theorem s_parMc {n : Nat} {is : List Nat} {pt : Pos} {kt k2 pt2} (hc : X.calm = true) (hz : is.length = n) (hz2 : n ≤ 100000) (ha : PA X es (SAm X.K F fm)) (hg : PGs X ts (gNames is))
    (ht : (assignEach ts X.env).length = n := by rfl) (hst : (assignEach ts X.env).findIdx? (·.1) = none := by rfl)
    (hs : swapsWithSole [.Tuple ts kt pt] (.Tuple es k2 pt2) pos.line X.env = pure false := by rfl) (hw : swappedStores [.Tuple ts kt pt] (.Tuple es k2 pt2) X.env = pure none := by rfl)
    (h1 : (assignEach [.Tuple ts kt pt] X.env).map (·.2) = [assign (.Tuple ts kt pt) X.env] := by rfl) :
    PS X (.Assign [.Tuple ts kt pt] (.Tuple es k2 pt2) pos) (SS X.K X.mg F W (sParM is fm)) := ps_of (ps_asg (pe_tup ha) (pg_tup hc hg ht hst) hs hw h1) fun Z σ H hw => by
  obtain ⟨S, δ, o, R, hf, q⟩ := hw
  unfold sParM at hf
  split at hf
  · rename_i ms δ1 h1
    split at hf
    · rename_i h0
      cases hf
      refine ⟨S, δ, _, _, R, h1, fun vs S1 H1 s1 R1 d1 => ⟨sz_of (by rw [d1.len, h0.1, hz]; exact hz2), fun p hp => ?_⟩⟩
      obtain ⟨R3, s3, n3⟩ := lay_fresh (o := .tup vs) R1 hp
      have d3 : Hands F H S1 (upd H1 p (.tup vs)) σ δ1 vs ms := d1.kept fun b o e nt nw => s3.keep b o e nt nw
      have w := all_set is R3 d3 h0.2.1 h0.2.2
      have hl := d1.len
      rw [h0.1] at hl
      exact ⟨p, _, rfl, SqT.of upd_same, by rw [hl, hz], hl, q _ S1 _ (s1.s.trans s3.s) w⟩
    · cases hf
  · cases hf
end
@[simp] theorem wp_mNil {δ : DE} {Q : List Hnd × DE → Prop} : Wp (mNil δ) Q ↔ Q ([], δ) := by simp [mNil]
@[simp] theorem wp_mV {f : M} {r : MH} {δ : DE} {Q : List Hnd × DE → Prop} : Wp (mV f r δ) Q ↔ Wp (f δ) fun p => Wp (r p.2) fun q => Q (.v p.1 :: q.1, q.2) := by
  unfold mV
  rcases f δ with _ | ⟨d, δ1⟩ <;> simp
  rcases r δ1 with _ | ⟨ms, δ2⟩ <;> simp
@[simp] theorem wp_mO {f : MO'} {r : MH} {δ : DE} {Q : List Hnd × DE → Prop} : Wp (mO f r δ) Q ↔ Wp (f δ) fun p => Wp (r p.2) fun q => Q (.o p.1 :: q.1, q.2) := by
  unfold mO
  rcases f δ with _ | ⟨d, δ1⟩ <;> simp
  rcases r δ1 with _ | ⟨ms, δ2⟩ <;> simp
@[simp] theorem wp_sParM {is : List Nat} {fm : MH} {δ : DE} {QS : Out → Prop} : Wp (sParM is fm δ) QS ↔ Wp (fm δ) fun p => (p.1.length = is.length ∧ is.Nodup ∧ (∀ i ∈ is, free0 i p.2 = true)) ∧ QS (.nx (setD p.2 is p.1)) := by
  unfold sParM
  rcases fm δ with _ | ⟨d, δ1⟩ <;> simp
end Pd

/-! None asked for in a dict with tuples as keys. -/
namespace Pd
open PySem PySem.Spec PyProof.Rows L2
section
variable {prog : Program} {w : World} {K : Type} [DecidableEq K] {knd : KeyKind prog w K} {A : Around} {E : Value → Shared → Prop} {s : Shared}
theorem tup_ne_none {ks : List K} {b : Addr} {Q : Bool → Shared → Prop} (hu : A.units < cLine) (hk : IsTupleKey knd s.heap ks b) (h : Q false s) : wpAny (model prog w) A (eqBool (.ref b) .none) Q E s := by
  obtain ⟨o, items, n, ho, hc, hd, _⟩ := hk
  exact SeqAt.EqAt.tuple_none ⟨o, ho, hc, n, hd⟩ hu prog w E Q h
theorem tell_none {stored : List Value} {Q : Bool → Shared → Prop} (hst : ∀ v ∈ stored, ∃ k' b, v = .ref b ∧ IsTupleKey knd s.heap k' b) (h : Q false s) : wpAny (model prog w) A (tableMayTell .none stored) Q E s := by
  unfold tableMayTell
  split
  · exact wpAny_pure h
  · rw [eqIsQuiet_byValue 8 (v := .none) rfl]
    refine wpAny_bind (wpAny_pure ?_)
    simp only [Bool.not_true, Bool.false_eq_true, if_false]
    refine wpAny_bind ?_
    refine wpAny_forIn_list _ (fun rest r s' => s' = s ∧ r = (none, ()) ∧ ∀ v ∈ rest, ∃ k' b, v = .ref b ∧ IsTupleKey knd s.heap k' b) _ ?_ ?_ _ _ ⟨rfl, rfl, hst⟩
    · rintro x rest r s' ⟨rfl, rfl, hr⟩
      obtain ⟨k', b, rfl, hb⟩ := hr x List.mem_cons_self
      refine wpAny_bind (wpAny_eqIsQuiet_tuple hb ?_)
      simp only [Bool.not_true, Bool.false_eq_true, if_false]
      exact wpAny_pure ⟨rfl, rfl, fun v hv => hr v (List.mem_cons_of_mem _ hv)⟩
    · rintro r s' ⟨rfl, rfl, _⟩
      exact wpAny_pure h
theorem find_none {d : Addr} {o : Obj} {es ep} {xs : List (List K × Addr × Value)} {n : Int} {Q : Option Nat → Shared → Prop} (hu : A.units < cLine)
    (ho : s.heap.get? d = some o) (hd : o.data = .dict es ep) (he : es.toList = xs.map (entryOfKey (tupleKind knd))) (his : ∀ x ∈ xs, IsTupleKey knd s.heap x.1 x.2.1) (h : Q none s) :
    wpAny (model prog w) A (dictFind d .none n) Q E s := by
  have hmem : ∀ e ∈ es, ∃ x ∈ xs, e = entryOfKey (tupleKind knd) x := by
    intro e hin
    have : e ∈ xs.map (entryOfKey (tupleKind knd)) := he ▸ Array.mem_toList_iff.mpr hin
    obtain ⟨x, hx, rfl⟩ := List.mem_map.mp this
    exact ⟨x, hx, rfl⟩
  have hst : ∀ v ∈ (placesWithHash es.size (fun i => es[i]?.map (·.hash)) n).filterMap (fun i => es[i]?.map (·.key)), ∃ k' b, v = .ref b ∧ IsTupleKey knd s.heap k' b := by
    intro v hv
    obtain ⟨i, _, hi⟩ := List.mem_filterMap.mp hv
    cases hei : es[i]? with
    | none => rw [hei] at hi; cases hi
    | some e =>
      rw [hei] at hi
      obtain rfl : e.key = v := by simpa using hi
      obtain ⟨x, hx, rfl⟩ := hmem e (Array.mem_of_getElem? hei)
      exact ⟨x.1, x.2.1, rfl, his x hx⟩
  unfold dictFind
  try with_reducible refine wpAny_holding ?_
  refine wpAny_bind (wpAny_dictEntries ho hd ?_)
  dsimp only
  by_cases hc : ((Value.none :: (placesWithHash es.size (fun i => es[i]?.map (·.hash)) n).filterMap (fun i => es[i]?.map (·.key))).all carriedByValue) = true
  · rw [if_pos hc]
    unfold dictWalkPlain
    refine wpAny_bind ?_
    refine wpAny_forIn_list _ (fun rest b s' => s' = s ∧ b = (none, ())) _ ?_ ?_ _ _ ⟨rfl, rfl⟩
    · rintro x rest b s' ⟨rfl, rfl⟩
      cases hx : es[x]? with
      | none => exact wpAny_pure ⟨rfl, rfl⟩
      | some e =>
        obtain ⟨y, hy, rfl⟩ := hmem e (Array.mem_of_getElem? hx)
        dsimp only
        split
        · refine wpAny_bind (wpAny_dictEpoch ho hd (wpAny_bind (tup_ne_none hu (his y hy) (wpAny_bind (wpAny_dictEpoch ho hd ?_)))))
          show wpAny _ _ (if (ep != ep) = true then _ else _) _ E _
          rw [if_neg (by simp)]
          exact wpAny_bind (wpAny_rule (wpAny_pure ⟨rfl, rfl⟩))
        · exact wpAny_pure ⟨rfl, rfl⟩
    · rintro b s' ⟨rfl, rfl⟩
      exact wpAny_pure h
  · rw [if_neg hc]
    by_cases hone : (((placesWithHash es.size (fun i => es[i]?.map (·.hash)) n).filterMap (fun i => es[i]?.map (·.key))) == [Value.none]) = true <;>
    (first | rw [if_pos hone] | rw [if_neg hone]) <;> (first | refine wpAny_bind (wpAny_pure ?_) | refine wpAny_bind (tell_none hst ?_)) <;> (
      rw [if_neg (by simp)]
      refine wpAny_bind ?_
      refine wpAny_forIn_list _ (fun rest b s' => s' = s ∧ b = (none, none)) _ ?_ ?_ _ _ ⟨rfl, rfl⟩
      · rintro x rest b s' ⟨rfl, rfl⟩
        cases hx : es[x]? with
        | none => exact wpAny_pure ⟨rfl, rfl⟩
        | some e =>
          obtain ⟨y, hy, rfl⟩ := hmem e (Array.mem_of_getElem? hx)
          dsimp only
          by_cases hh : ((entryOfKey (tupleKind knd) y).hash == n) = true
          · rw [if_pos hh]
            refine wpAny_bind (wpAny_dictEpoch ho hd (wpAny_bind (tup_ne_none hu (his y hy) (wpAny_bind (wpAny_dictEpoch ho hd ?_)))))
            show wpAny _ _ (if (ep != ep) = true then _ else _) _ E _
            rw [if_neg (by simp)]
            simp only [Bool.false_eq_true, if_false]
            refine wpAny_bind (wpAny_rule ?_)
            first | rw [if_neg (by simp)] | skip
            first
              | exact wpAny_pure ⟨rfl, rfl⟩
              | exact wpAny_bind (wpAny_pure (wpAny_pure ⟨rfl, rfl⟩))
          · rw [if_neg hh]
            exact wpAny_pure ⟨rfl, rfl⟩
      · rintro b s' ⟨rfl, rfl⟩
        exact wpAny_pure h)
theorem get_none {d : Addr} {xs : List (List K × Addr × Value)} {Q : Option Value → Shared → Prop} (hu : A.units < cLine) (hm : s.heap.DictOfH (tupleKind knd) d xs)
    (h : Q none { s with toks := s.toks + 1 }) : wpAny (model prog w) A (dictGet d .none) Q E s := by
  obtain ⟨o, es, ep, ho, _, hd, he, his, hn⟩ := hm
  unfold dictGet
  try with_reducible refine wpAny_holding ?_
  refine wpAny_bind ?_
  refine PySem.W.pyHash_slot (T := "NoneType") rfl PySem.F.slot_NoneType_hash PySem.F.entry_NoneType_hash (PySem.F.args_NoneType_hash_1 _) (beq_builtin_none _) (.inl rfl) (wpAny_bind (wpAny_pure (wpAny_bind (wpAny_mkInt (wpAny_pure ⟨_, _, rfl, ?_⟩)))))
  refine wpAny_bind (find_none (s := { s with toks := s.toks + 1 }) hu ho hd he his ?_)
  exact wpAny_pure h
theorem in_none {d : Addr} {xs : List (List K × Addr × Value)} {Q : Value → Shared → Prop} (hu : A.units + 1 < cLine) (hd : (d == sysModules) = false) (hm : s.heap.DictOfH (tupleKind knd) d xs)
    (h : Q (.bool false) { s with toks := s.toks + 1 }) : wpAny (model prog w) A (compareOp .In .none (.ref d)) Q E s := by
  show wpAny _ _ (do return .bool (← contains (.ref d) .none)) Q E s
  refine wpAny_bind ?_
  unfold contains
  try with_reducible refine wpAny_holding ?_
  refine wpAny_bind (wpAny_specialOf hm.typeIs slot_dict_contains.lookup ?_)
  show wpAny _ _ (if (some (Value.builtin "dict.__contains__") == some Value.none) = true then _ else _) _ E s
  rw [if_neg (by rw [beq_builtin_none]; exact Bool.false_ne_true)]
  refine wpAny_bind (wpAny_callSpecialUnlessNone?_slot (name := Str.ofString "__contains__") hm.typeIs slot_dict_contains
    (wpAny_call_entry slot_dict_contains hm.typeIs entry_dict_contains ?_ (args_dict_contains _ _)))
  show wpAny _ _ (dictGet d .none >>= _) _ _ s
  refine wpAny_bind (get_none hu hm ?_)
  show wpAny _ _ (Builtin.Dict.pendingKey? d .none >>= _) _ _ _
  exact wpAny_bind (wpAny_pendingKey_other hd (wpAny_pure ⟨_, rfl, wpAny_truthy_bool (wpAny_pure h)⟩))
theorem notIn_none {d : Addr} {xs : List (List K × Addr × Value)} {Q : Value → Shared → Prop} (hu : A.units + 1 < cLine) (hd : (d == sysModules) = false) (hm : s.heap.DictOfH (tupleKind knd) d xs)
    (h : Q (.bool true) { s with toks := s.toks + 1 }) : wpAny (model prog w) A (compareOp .NotIn .none (.ref d)) Q E s := by
  show wpAny _ _ (do return .bool (!(← contains (.ref d) .none))) Q E s
  refine wpAny_bind ?_
  unfold contains
  try with_reducible refine wpAny_holding ?_
  refine wpAny_bind (wpAny_specialOf hm.typeIs slot_dict_contains.lookup ?_)
  show wpAny _ _ (if (some (Value.builtin "dict.__contains__") == some Value.none) = true then _ else _) _ E s
  rw [if_neg (by rw [beq_builtin_none]; exact Bool.false_ne_true)]
  refine wpAny_bind (wpAny_callSpecialUnlessNone?_slot (name := Str.ofString "__contains__") hm.typeIs slot_dict_contains
    (wpAny_call_entry slot_dict_contains hm.typeIs entry_dict_contains ?_ (args_dict_contains _ _)))
  show wpAny _ _ (dictGet d .none >>= _) _ _ s
  refine wpAny_bind (get_none hu hm ?_)
  show wpAny _ _ (Builtin.Dict.pendingKey? d .none >>= _) _ _ _
  exact wpAny_bind (wpAny_pendingKey_other hd (wpAny_pure ⟨_, rfl, wpAny_truthy_bool (wpAny_pure h)⟩))
end
/-! ### in, not in -/
theorem op_nIn {X : Cx} (hu : X.A.units + 1 < cLine) : OpR X (compareOp .In) fun y x H Q => ∃ a o kvs, x = .ref a ∧ y = .non ∧ H a = some o ∧ DictAt H o kvs ∧ Q (.bl false) H := by
  intro pins s σ H y x v u Q I ry rx h
  obtain ⟨a, o, kvs, rfl, rfl, g, hd, q⟩ := h
  obtain rfl : u = Value.ref a := rx
  obtain rfl : v = Value.none := ry
  rcases hd with ⟨kws, kk, rfl, _⟩ | ⟨kws, kk, rfl, _⟩
  · exact d_inNone I (.inl g) fun s3 I3 => ⟨.bl false, H, I3, rfl, q⟩
  · obtain ⟨z, hd, xs, _, dd⟩ := dt_rd I.hok (.inl g)
    exact in_none hu hd dd ⟨.bl false, H, I.tok _, rfl, q⟩
theorem op_nNotIn {X : Cx} (hu : X.A.units + 1 < cLine) : OpR X (compareOp .NotIn) fun y x H Q => ∃ a o kvs, x = .ref a ∧ y = .non ∧ H a = some o ∧ DictAt H o kvs ∧ Q (.bl true) H := by
  intro pins s σ H y x v u Q I ry rx h
  obtain ⟨a, o, kvs, rfl, rfl, g, hd, q⟩ := h
  obtain rfl : u = Value.ref a := rx
  obtain rfl : v = Value.none := ry
  rcases hd with ⟨kws, kk, rfl, _⟩ | ⟨kws, kk, rfl, _⟩
  · exact d_notInNone I (.inl g) fun s3 I3 => ⟨.bl true, H, I3, rfl, q⟩
  · obtain ⟨z, hd, xs, _, dd⟩ := dt_rd I.hok (.inl g)
    exact notIn_none hu hd dd ⟨.bl true, H, I.tok _, rfl, q⟩
/-- in, where the key may be None -/
def cInN : D → D → Option Bool
  | .none, .dict _ => some false
  | k, e => cInE k e
def cNotInN (d e : D) : Option Bool := (cInN d e).map fun k => !k
section
variable [TabSet] {X : Cx}
theorem dq_non {S : Hp} {y : V} (h : Dq S y .none) : y = .non := by cases h; rfl
theorem ck_inN {n : Nat} (hr : Room n X.A) : CmpOk X .In cInN := fun d e k hk => by
  by_cases c : d = .none ∧ ∃ kvs, e = .dict kvs
  · obtain ⟨rfl, kvs, rfl⟩ := c
    obtain rfl := Option.some.inj (show some false = some k from hk)
    refine ⟨_, op_nIn (hu1 hr), fun S H y v Q ex h1 h2 q => ?_⟩
    obtain ⟨a, o, rfl, e1, e2⟩ := dq_dict h2
    exact ⟨a, o, kvs, rfl, dq_non h1, ex _ _ e1, dict_ext ex e2, q⟩
  · have : cInN d e = cInE d e := by
      unfold cInN
      split
      · rename_i kvs
        exact absurd ⟨rfl, kvs, rfl⟩ c
      · rfl
    rw [this] at hk
    exact ck_inE hr d e k hk
theorem ck_notinN {n : Nat} (hr : Room n X.A) : CmpOk X .NotIn cNotInN := fun d e k hk => by
  by_cases c : d = .none ∧ ∃ kvs, e = .dict kvs
  · obtain ⟨rfl, kvs, rfl⟩ := c
    obtain rfl := Option.some.inj (show some true = some k from hk)
    refine ⟨_, op_nNotIn (hu1 hr), fun S H y v Q ex h1 h2 q => ?_⟩
    obtain ⟨a, o, rfl, e1, e2⟩ := dq_dict h2
    exact ⟨a, o, kvs, rfl, dq_non h1, ex _ _ e1, dict_ext ex e2, q⟩
  · have : cNotInN d e = cNotInE d e := by
      unfold cNotInN cNotInE cInN
      split
      · rename_i kvs
        exact absurd ⟨rfl, kvs, rfl⟩ c
      · rfl
    rw [this] at hk
    exact ck_notinE hr d e k hk
end
@[simp] theorem wp_cInN_n {kvs : List (D × D)} {QB : Bool → Prop} : Wp (cInN .none (.dict kvs)) QB ↔ QB false := by simp [cInN]
@[simp] theorem wp_cInN_i {i : Int} {e : D} {QB : Bool → Prop} : Wp (cInN (.int i) e) QB ↔ Wp (cInE (.int i) e) QB := Iff.rfl
@[simp] theorem wp_cInN_t {ds : List D} {e : D} {QB : Bool → Prop} : Wp (cInN (.tuple ds) e) QB ↔ Wp (cInE (.tuple ds) e) QB := Iff.rfl
@[simp] theorem wp_cInN_tI {ns : List Int} {e : D} {QB : Bool → Prop} : Wp (cInN (tI ns) e) QB ↔ Wp (cInE (tI ns) e) QB := Iff.rfl
@[simp] theorem wp_cNotInN {d e : D} {QB : Bool → Prop} : Wp (cNotInN d e) QB ↔ Wp (cInN d e) fun k => QB (!k) := by simp [cNotInN]
end Pd

/-! len of a dict, a dict made and handed on as a value, min of nothing. -/
namespace Pd
open PySem PySem.Spec PyProof.Rows L2
open Evl (Ex)
/-! ### len of a dict -/
def uLenA : D → Option D
  | .dict kvs => some (.int (if isTk kvs = true then ((kvs.length - 1 : Nat) : Int) else (kvs.length : Int)))
  | d => uLen d
section
variable [TabSet] {X : Cx} {F : Fr} {a e : Expr} {f : M} {fo : MO'} {pos : Pos}
theorem e_lenA {pp : Pos} (hm : X.mg "len" = none) (ha : PE X a (SX X.K F f)) (hg : Gl X "len" := by rfl) (he : starEach (a :: []) X.env = (false, eval a X.env) :: starEach [] X.env := by rfl) (hpl : (backTo pos (starEach [] X.env)).any (·.1) = false := by rfl) :
    PE X (.Call (.Name "len" pp) [a] [] pos) (SE X.K F (f1 uLenA f)) := by
  refine e_c1 (bi := .builtin "len") (fun r hr => pe_callB hr hg hm PySem.boot_len (pa_cons ha pa_nil he) (he := he) (hpl := hpl)) fun d z hz => ?_
  cases d with
  | dict kvs =>
    simp only [uLenA] at hz
    cases hz
    by_cases ht : isTk kvs = true
    · refine ⟨_, call_len_dT, fun S H v Q ex d1 q => ?_⟩
      obtain ⟨a, o, rfl, e1, d1⟩ := d1
      rcases d1 with ⟨kws, kk, rfl, rfl, h1, h2⟩ | ⟨kws, kk, rfl, rfl, h1, h2⟩
      · rw [isTk_kD] at ht
        cases ht
      · refine ⟨a, kws, rfl, e1, ?_⟩
        have hl : kws.length = kk.length := by simpa using congrArg List.length h1
        rw [if_pos ht] at q
        rw [hl]
        have : (tD kk).length - 1 = kk.length := by simp [tD]
        rw [this] at q
        exact q _ S H (Grow.refl ex) (.int _)
    · refine ⟨_, call_lenD, fun S H v Q ex d1 q => ?_⟩
      obtain ⟨a, o, rfl, e1, d1⟩ := d1
      rcases d1 with ⟨kws, kk, rfl, rfl, h1, h2⟩ | ⟨kws, kk, rfl, rfl, h1, h2⟩
      · refine ⟨a, kws, rfl, e1, ?_⟩
        have hl : kws.length = kk.length := by simpa using congrArg List.length h1
        rw [if_neg ht] at q
        rw [hl]
        have : (kD kk).length = kk.length := by simp [kD]
        rw [this] at q
        exact q _ S H (Grow.refl ex) (.int _)
      · rw [isTk_tD] at ht
        exact absurd rfl ht
  | str x =>
    simp only [uLenA, uLen] at hz
    split at hz
    · rename_i hc
      cases hz
      refine ⟨_, call_len_str, fun S H v Q ex d1 q => ⟨_, ?_, sz_of hc, q _ S H (Grow.refl ex) (.int _)⟩⟩
      rw [dq_str d1]
    · cases hz
  | list ds =>
    simp only [uLenA, uLen] at hz
    cases hz
    refine ⟨_, call_len_seq, fun S H v Q ex d1 q => ?_⟩
    obtain ⟨p1, v1, rfl, e1, d1⟩ := d1
    refine ⟨p1, v1, rfl, .inl (SqL.of e1), ?_⟩
    rw [dqa_len d1]
    exact q _ S H (Grow.refl ex) (.int _)
  | tuple ds =>
    simp only [uLenA, uLen] at hz
    cases hz
    refine ⟨_, call_len_seq, fun S H v Q ex d1 q => ?_⟩
    obtain ⟨p1, v1, rfl, e1, d1⟩ := dq_tup d1
    refine ⟨p1, v1, rfl, .inr (SqT.of (ex _ _ e1)), ?_⟩
    rw [dqa_len d1]
    exact q _ S H (Grow.refl ex) (.int _)
  | _ => simp only [uLenA, uLen] at hz; cases hz
/-! ### a fresh own thing, handed on as a value -/
theorem share_own {K : PySem.W.Frag} {S0 H0 S H : Hp} {σ : L2.St} {δ0 δ : DE} (R0 : RSt K F S0 H0 σ δ0) (s : Stp S0 H0 S H σ δ0 δ) (R : RSt K F S H σ δ) {p : Addr} {o : HO} {ob : Ob} (h0 : H0 p = none) (hS : S p = none) (hp : H p = some o) (hob : ObOk S o ob) :
    RSt K F (upd S p o) H σ δ ∧ Stp S0 H0 (upd S p o) H σ δ0 δ := by
  obtain ⟨z1, z2⟩ := R0.frz h0
  have hx : Ex S (upd S p o) := Ex.new hS
  have nw : ¬ Own σ δ p := fun w => by
    obtain ⟨us, q, _⟩ := R0.own_in (s.own w)
    rw [h0] at q; cases q
  refine ⟨⟨fun b u e => ?_, R.base, R.dom0, fun t => ⟨(R.tb0 t).1, nt_upd (R.tb0 t).2 (ob_nt hob)⟩, R.s0.trans hx, fun b u e => ?_, R.iop, R.len, fun i x t h1 h2 => ?_, R.sep, R.pin⟩, ⟨s.s.trans hx, fun b u e => ?_, s.keep, s.dom, s.kind, fun t => ⟨(s.tb t).1, nt_upd (s.tb t).2 (ob_nt hob)⟩⟩⟩
  · by_cases c : b = p
    · subst c; rw [upd_same] at e; cases e; exact hp
    · rw [upd_ne c] at e; exact R.sub b u e
  · rw [upd_ne (fun z => by rw [z, z1] at e; cases e)]; exact R.out b u e
  · have q := R.slot i x t h1 h2
    cases t with
    | no => trivial
    | sh d => obtain ⟨v, w1, w2⟩ := q; exact ⟨v, w1, dq_ext hx w2⟩
    | scr ns => obtain ⟨v, w1, w2⟩ := q; exact ⟨v, w1, Evl.ex_l hx w2⟩
    | ow xs =>
      obtain ⟨v, us, w1, w2, w3, w4, w5⟩ := q
      exact ⟨v, us, w1, by rw [upd_ne (fun z => nw ⟨i, xs, h2, by rw [h1, w1, z]⟩)]; exact w2, w3, w4, ob_ext hx w5⟩
  · rw [upd_ne (fun z => by rw [z, h0] at e; cases e)]; exact s.out b u e
omit [TabSet] in
def fDict (fo : MO') : M := fun δ => match fo δ with
  | some (ob, δ1) => some (obD ob, δ1)
  | none => none
theorem se_o (ha : PE X e (SFO X.K F fo)) : PE X e (SE X.K F (fDict fo)) := by
  refine pe_of fun S δ d δ' σ H Q R hf q => ⟨_, ha, ?_⟩
  unfold fDict at hf
  split at hf
  · rename_i ob δ1 h1
    cases hf
    refine ⟨S, δ, ob, _, R, h1, fun a o S1 H1 s1 R1 n1 n2 e1 hob => ?_⟩
    obtain ⟨R2, s2⟩ := share_own R s1 R1 n1 n2 e1 hob
    exact q _ _ _ s2 R2 (ob_dq upd_same (ob_ext (Ex.new n2) hob))
  · cases hf
omit [TabSet] in
@[simp] theorem wp_fDict {δ : DE} {Q : D × DE → Prop} : Wp (fDict fo δ) Q ↔ Wp (fo δ) fun p => Q (obD p.1, p.2) := by
  unfold fDict
  rcases fo δ with _ | ⟨ob, δ1⟩ <;> simp
/-! ### min([], default=d) -/
omit [TabSet] in
def rMinE (K : PySem.W.Frag) : List V → List V → Hp → VK → Prop := fun xs zs H Q => ∃ p, xs = [.ref p] ∧ zs = [.non] ∧ SqL K H p (([] : List Int).map V.int) ∧ Q .non H
omit [TabSet] in
theorem cr_minE {n : Nat} (hr : Room n X.A) (hc : X.calm = true) : CallRK X (.builtin "min") [Str.ofString "default"] (rMinE X.K) := by
  rintro pins s σ H vs zs us ws Q I r rz ⟨p, rfl, rfl, hs, q⟩
  obtain rfl := Vals.ref1 r
  obtain ⟨w1, rfl, e1⟩ := vals1 rz
  obtain ⟨its, rv, hl, _⟩ := I.list hs
  have hu : X.A.units + 1 + PyData.depthAll (([] : List Int).map PyData.int) < cLine := by
    have := depth_ints []
    have := hr.un
    omega
  obtain ⟨as, rd⟩ := reads_ints (h := s.heap) _ _ rv
  exact PySem.W.min_list_default (I.ok.hd hc) hl.isList rd (alike_ints []) hu (fun _ h' tk hk => ⟨.non, H, I.kept hk, e1, q⟩) fun y ys i v h' tk bs e => by cases e
omit [TabSet] in
def fMinE (f : M) : M := fun δ => match f δ with
  | some (.list [], δ1) => some (.none, δ1)
  | _ => none
theorem e_minE {n : Nat} {pp kp : Pos} {a b : Expr} {f : M} (hr : Room n X.A) (hc : X.calm = true) (hm : X.mg "min" = none) (ha : PE X a (SX X.K F f)) (hb : PE X b (tC .non)) (hg : Gl X "min" := by rfl) 
    (hn : starEach [a] X.env = (false, eval a X.env) :: starEach [] X.env := by rfl)
    (he : backTo pos (starEach (a :: []) X.env) = (false, eval a X.env) :: backTo pos (starEach [] X.env) := by rfl) (hpl : (backTo pos (starEach (a :: []) X.env)).any (·.1) = false := by rfl)
    (hall : (backToKw pos (keywordEach [⟨some "default", b, kp⟩] X.env)).all (·.1.isSome) = true := by rfl) (hnone : (backToKw pos (keywordEach [⟨some "default", b, kp⟩] X.env)).any (·.1.isNone) = false := by rfl) (hks : (backToKw pos (keywordEach [⟨some "default", b, kp⟩] X.env)).filterMap (·.1) = [Str.ofString "default"] := by rfl) :
    PE X (.Call (.Name "min" pp) [a] [⟨some "default", b, kp⟩] pos) (SE X.K F (fMinE f)) := by
  refine pe_of fun S δ d δ' σ H Q R hf q => ⟨_, pe_callBK (cr_minE hr hc) hg hm rfl (pa_cons ha pa_nil hn) (pk_cons hb pk_nil) (he := he) (hpl := hpl) (hall := hall) (hnone := hnone) (hks := hks), ?_⟩
  unfold fMinE at hf
  split at hf
  · rename_i δ1 h1
    refine ⟨S, δ, _, δ1, R, h1, fun v S1 H1 s1 R1 d1 => ?_⟩
    obtain ⟨p1, v1, rfl, e1, d1⟩ := d1
    have e0 : v1 = [] := by cases d1; rfl
    subst e0
    cases hf
    exact ⟨p1, rfl, rfl, SqL.of e1, q _ S1 H1 s1 R1 .non⟩
  · cases hf
omit [TabSet] in
@[simp] theorem wp_fMinE {f : M} {δ : DE} {Q : D × DE → Prop} : Wp (fMinE f δ) Q ↔ Wp (f δ) fun p => p.1 = .list [] ∧ Q (.none, p.2) := by
  unfold fMinE
  rcases f δ with _ | ⟨d, δ1⟩
  · simp
  · cases d <;> simp
    rename_i ds
    cases ds <;> simp
end
@[simp] theorem wp_lenA_l {xs : List D} {Q : D → Prop} : Wp (uLenA (.list xs)) Q ↔ Q (.int xs.length) := by simp [uLenA]
@[simp] theorem wp_lenA_t {xs : List D} {Q : D → Prop} : Wp (uLenA (.tuple xs)) Q ↔ Q (.int xs.length) := by simp [uLenA]
@[simp] theorem wp_lenA_k {kk : List (Key × D)} {Q : D → Prop} : Wp (uLenA (.dict (kD kk))) Q ↔ Q (.int kk.length) := by
  have : (kD kk).length = kk.length := by simp [kD]
  simp [uLenA, isTk_kD, this]
@[simp] theorem wp_lenA_d {kk : List (List Key × D)} {Q : D → Prop} : Wp (uLenA (.dict (tD kk))) Q ↔ Q (.int kk.length) := by
  have : (tD kk).length - 1 = kk.length := by simp [tD]
  simp [uLenA, isTk_tD, this]
end Pd

namespace K20
open PySem PySem.Spec PyProof.Rows L2 Pd
def topS (i : Nat) : Stmt := PySem.Challenge.pw_rungonce_k20_whole_ties_of_two_ways.main.body.getD i (.Pass ⟨0, 0, 0, 0⟩)
structure Env (K : PySem.W.Frag) (mg : Str → Option Value) : Prop where
  f_is_integer : FunAt K mg "is_integer" (topS 1) ["value"]
  f_is_index : FunAt K mg "is_index" (topS 2) ["value", "count"]
  f_are_indices : FunAt K mg "are_indices" (topS 3) ["value", "count"]
  f_are_ascending : FunAt K mg "are_ascending" (topS 4) ["value", "count"]
  f_cycle_from : FunAt K mg "cycle_from" (topS 5) ["steps", "start"]
  f_cycles_from : FunAt K mg "cycles_from" (topS 6) ["steps", "starts"]
  f_cycles_of : FunAt K mg "cycles_of" (topS 7) ["steps"]
  f_undone_steps : FunAt K mg "undone_steps" (topS 8) ["steps"]
  f_first_unlike : FunAt K mg "first_unlike" (topS 9) ["numbers", "labels"]
  f_check_table : FunAt K mg "check_table" (topS 19) ["table"]
  f_could_choose : FunAt K mg "could_choose" (topS 20) ["table", "value"]
  f_check_choice : FunAt K mg "check_choice" (topS 21) ["table", "choice"]
  f_ends_by : FunAt K mg "ends_by" (topS 22) ["table", "choice"]
  f_first_meeting : FunAt K mg "first_meeting" (topS 23) ["table", "choice"]
  f_is_table : FunAt K mg "is_table" (topS 24) ["value"]
  f_two_that_meet : FunAt K mg "two_that_meet" (topS 25) ["table", "choice"]
  f_undone_way : FunAt K mg "undone_way" (topS 27) ["table", "way"]
  f_followers : FunAt K mg "followers" (topS 28) ["table", "one", "two"]
  f_all_classes : FunAt K mg "all_classes" (topS 29) ["table", "one", "two"]
  f_check_two : FunAt K mg "check_two" (topS 31) ["two"]
  f_check_told : FunAt K mg "check_told" (topS 32) ["table", "told"]
  f_all_ties : FunAt K mg "all_ties" (topS 33) ["two"]
  f_first_apart : FunAt K mg "first_apart" (topS 34) ["ties", "ways"]
  f_ties_of : FunAt K mg "ties_of" (topS 35) ["two"]
  f_count_two : FunAt K mg "count_two" (topS 36) ["two", "told"]
  f_law_cup : FunAt K mg "_law_cup" (topS 38) ["_law_script"]
  f_law_roll : FunAt K mg "_law_roll" (topS 39) ["_law_cup_here", "_law_many"]
  f_law_nexts : FunAt K mg "_law_nexts" (topS 41) ["_law_table_here", "_law_choice"]
  f_law_is_one : FunAt K mg "_law_is_one" (topS 42) ["_law_nexts_here"]
  f_law_way : FunAt K mg "_law_way" (topS 43) ["_law_cup_here", "_law_many"]
  f_law_table : FunAt K mg "_law_table" (topS 44) ["_law_cup_here", "_law_many", "_law_ways"]
  f_law_all : FunAt K mg "_law_all" (topS 46) ["_law_many", "_law_ways"]
  f_law_ties : FunAt K mg "_law_ties" (topS 49) ["_law_table_here"]
  f_law_right : FunAt K mg "_law_right" (topS 50) ["_law_table_here"]
  f_law : FunAt K mg "law" (topS 51) ["_law_script"]
  n_abs : mg "abs" = none
  n_all : mg "all" = none
  n_any : mg "any" = none
  n_bool : mg "bool" = none
  n_enumerate : mg "enumerate" = none
  n_int : mg "int" = none
  n_isinstance : mg "isinstance" = none
  n_len : mg "len" = none
  n_list : mg "list" = none
  n_min : mg "min" = none
  n_range : mg "range" = none
  n_set : mg "set" = none
  n_sorted : mg "sorted" = none
  n_sum : mg "sum" = none
  n_tuple : mg "tuple" = none
  n_zip : mg "zip" = none
  x_InvalidChoice : ExcOk K mg "InvalidChoice"
  x_InvalidTable : ExcOk K mg "InvalidTable"
  x_InvalidTold : ExcOk K mg "InvalidTold"
  x_NotTwo : ExcOk K mg "NotTwo"
  c_MOST_ITEMS : ∃ u, mg "MOST_ITEMS" = some u ∧ RelV (.int 720) u
  c_MOST_WAYS_OF_TABLE : ∃ u, mg "MOST_WAYS_OF_TABLE" = some u ∧ RelV (.int 6) u
variable [TabSet] {P : Program} {w : World} {K : PySem.W.Frag} {mg : Str → Option Value} {base : Heap}
/-! is_integer -/
omit [TabSet] in
@[simp] def s_is_integer_0 : MS := (sRet (fAndV (f1 (uIs "int") (fVar 0)) (fNotV (f1 (uIs "bool") (fVar 0)))))
/-! is_integer -/
omit [TabSet] in
@[simp] def b_is_integer : MS := (sSeq s_is_integer_0 sNil)
omit [TabSet] in
def m_is_integer : MF := mOf 1 1 b_is_integer
omit [TabSet] in
theorem sc_is_integer : FnScope ["value"] ["value"] (defScope (topS 1)) := ⟨rfl, rfl, rfl, by decide +kernel, rfl, by decide +kernel, by decide +kernel⟩
theorem d_is_integer (G : Env K mg) : DefOk P w K mg base "is_integer" 1 (spF mg m_is_integer) :=
  have Sc := sc_is_integer
  def_pure (k := 0) G.f_is_integer Sc (by decide) fun cdv A outer s H E F fa hr =>
  (s_cons (s_ret (e_and (e_isi (T := "int") (hm := G.n_isinstance) (hmT := G.n_int) (hvT := by rfl) (ha := (x_of (e_var (i := 0))))) (e_one (e_not (e_isi (T := "bool") (hm := G.n_isinstance) (hmT := G.n_bool) (hvT := by rfl) (ha := (x_of (e_var (i := 0)))))))))
  s_nil)
/-! is_index -/
omit [TabSet] in
@[simp] def s_is_index_0 : MS := (sRet (fAndV (fCall m_is_integer (aCons (fVar 0) aNil)) (fChain cLe cLt (fC (.int 0)) (fVar 0) (fVar 1))))
/-! is_index -/
omit [TabSet] in
@[simp] def b_is_index : MS := (sSeq s_is_index_0 sNil)
omit [TabSet] in
def m_is_index : MF := mOf 2 2 b_is_index
omit [TabSet] in
theorem sc_is_index : FnScope ["value", "count"] ["value", "count"] (defScope (topS 2)) := ⟨rfl, rfl, rfl, by decide +kernel, rfl, by decide +kernel, by decide +kernel⟩
theorem d_is_index (G : Env K mg) : DefOk P w K mg base "is_index" 2 (spF mg m_is_index) :=
  have Sc := sc_is_index
  def_pure (k := 1) G.f_is_index Sc (by decide) fun cdv A outer s H E F fa hr =>
  (s_cons (s_ret (e_and (e_call ((d_is_integer G).mono (by decide)) hr (a_cons (e_var (i := 0)) a_nil)) (e_one (e_chain ck_le ck_lt e_int (e_var (i := 0)) (e_var (i := 1))))))
  s_nil)
/-! are_indices -/
omit [TabSet] in
@[simp] def s_are_indices_0 : MS := (sRet (fAndV (f1 (uIs "tuple") (fVar 0)) (f1 uAll (fList (lComp (iSeq (fVar 0)) (gN 2) tTrue (fCall m_is_index (aCons (fVar 2) (aCons (fVar 1) aNil))) [2])))))
/-! are_indices -/
omit [TabSet] in
@[simp] def b_are_indices : MS := (sSeq s_are_indices_0 sNil)
omit [TabSet] in
def m_are_indices : MF := mOf 3 2 b_are_indices
omit [TabSet] in
theorem sc_are_indices : FnScope ["value", "count", "item"] ["value", "count"] (defScope (topS 3)) := ⟨rfl, rfl, rfl, by decide +kernel, rfl, by decide +kernel, by decide +kernel⟩
theorem d_are_indices (G : Env K mg) : DefOk P w K mg base "are_indices" 3 (spF mg m_are_indices) :=
  have Sc := sc_are_indices
  def_pure (k := 2) G.f_are_indices Sc (by decide) fun cdv A outer s H E F fa hr =>
  (s_cons (s_ret (e_and (e_isi (T := "tuple") (hm := G.n_isinstance) (hmT := G.n_tuple) (hvT := by rfl) (ha := (x_of (e_var (i := 0))))) (e_one (e_all (hc := rfl) (hm := G.n_all) (ha := (x_f (e_lc' (own := [("item", 2)]) rfl Sc.nd (i_seq (e_var (i := 0))) (blkOk_by (by rfl)) (fun s H C cl fp => (g_name (i := 2) Sc.nd)) (fun s H C cl fp => ts_nil) (fun s H C cl fp => (e_call ((d_is_index G).mono (by decide)) hr (a_cons (e_var (i := 2)) (a_cons (e_var (i := 1)) a_nil)))))))))))
  s_nil)
/-! are_ascending -/
omit [TabSet] in
@[simp] def s_are_ascending_0 : MS := (sRet (fAndV (fCall m_are_indices (aCons (fVar 0) (aCons (fVar 1) aNil))) (f1 uAll (fList (lComp (iZip2 (fVar 0) (fSlA (fVar 0) (oInt (pC (.int 1))) oNo)) (gT (gsCons (gN 2) (gsCons (gN 3) gsNil))) tTrue (fCmp cLt (fVar 2) (fVar 3)) [2, 3])))))
/-! are_ascending -/
omit [TabSet] in
@[simp] def b_are_ascending : MS := (sSeq s_are_ascending_0 sNil)
omit [TabSet] in
def m_are_ascending : MF := mOf 4 2 b_are_ascending
omit [TabSet] in
theorem sc_are_ascending : FnScope ["value", "count", "low", "high"] ["value", "count"] (defScope (topS 4)) := ⟨rfl, rfl, rfl, by decide +kernel, rfl, by decide +kernel, by decide +kernel⟩
theorem d_are_ascending (G : Env K mg) : DefOk P w K mg base "are_ascending" 4 (spF mg m_are_ascending) :=
  have Sc := sc_are_ascending
  def_pure (k := 3) G.f_are_ascending Sc (by decide) fun cdv A outer s H E F fa hr =>
  (s_cons (s_ret (e_and (e_call ((d_are_indices G).mono (by decide)) hr (a_cons (e_var (i := 0)) (a_cons (e_var (i := 1)) a_nil))) (e_one (e_all (hc := rfl) (hm := G.n_all) (ha := (x_f (e_lc' (own := [("low", 2), ("high", 3)]) rfl Sc.nd (i_zip (hm := G.n_zip) (ha := (e_var (i := 0))) (hb := (e_slA (e_var (i := 0)) (o_int p_int) o_no))) (blkOk_by (by rfl)) (fun s H C cl fp => (g_tup rfl (gs_cons (g_name (i := 2) Sc.nd) (gs_cons (g_name (i := 3) Sc.nd) gs_nil)) rfl rfl (gsCons_len (gsCons_len gsNil_len)))) (fun s H C cl fp => ts_nil) (fun s H C cl fp => (e_cmp ck_lt (e_var (i := 2)) (e_var (i := 3)))))))))))
  s_nil)
/-! cycle_from -/
omit [TabSet] in
@[simp] def s_cycle_from_3 : MS := (sRet (f1 uTup (fPeek 2)))
omit [TabSet] in
def l_cycle_from_1 : MS := (sSeq (sApp 2 (fVar 3))
  (sSeq (sSet 3 (fOp ixE (fVar 0) (fVar 3)))
  sNil))
omit [TabSet] in
@[simp] def s_cycle_from_2 : MS := (sWhile 1000 (fCmpT cNe (fVar 3) (fVar 1))
  l_cycle_from_1)
omit [TabSet] in
@[simp] def s_cycle_from_1 : MS := (sSet 3 (fOp ixE (fVar 0) (fVar 1)))
omit [TabSet] in
@[simp] def s_cycle_from_0 : MS := (sSetO 2 (lLst (aCons (fVar 1) aNil)))
/-! cycle_from -/
omit [TabSet] in
@[simp] def b_cycle_from : MS := (sSeq s_cycle_from_0 (sSeq s_cycle_from_1 (sSeq s_cycle_from_2 (sSeq s_cycle_from_3 sNil))))
omit [TabSet] in
def m_cycle_from : MF := mOf 4 2 b_cycle_from
omit [TabSet] in
theorem sc_cycle_from : FnScope ["steps", "start", "cycle", "at"] ["steps", "start"] (defScope (topS 5)) := ⟨rfl, rfl, rfl, by decide +kernel, rfl, by decide +kernel, by decide +kernel⟩
theorem d_cycle_from (G : Env K mg) : DefOk P w K mg base "cycle_from" 1 (spF mg m_cycle_from) :=
  have Sc := sc_cycle_from
  def_pure (k := 0) G.f_cycle_from Sc (by decide) fun cdv A outer s H E F fa hr =>
  (s_cons (s_setO (i := 2) Sc.nd (f_lst (a_cons (e_var (i := 1)) a_nil)))
  (s_cons (s_set (i := 3) Sc.nd (e_ixE hr (e_var (i := 0)) (e_var (i := 1))))
  (s_cons (s_while (n := 1000) (passes_of rfl) (t_cmp (ck_ne hr) (e_var (i := 3)) (e_var (i := 1)))
  (s_cons (s_app (i := 2) (e_var (i := 3)))
  (s_cons (s_set (i := 3) Sc.nd (e_ixE hr (e_var (i := 0)) (e_var (i := 3))))
  s_nil)))
  (s_cons (s_ret (e_tupOf (hm := G.n_tuple) (ha := (x_peek (i := 2)))))
  s_nil))))
/-! cycles_from -/
omit [TabSet] in
@[simp] def s_cycles_from_3 : MS := (sRetO 3)
omit [TabSet] in
def l_cycles_from_2 : MS := (sSeq (sPutO 2 (fVar 6) (fC (.bool true)))
  sNil)
omit [TabSet] in
def l_cycles_from_1 : MS := (sSeq (sIf (fCmpRT 2 cNotInE (fVar 4))
  (sSeq (sSet 5 (fCall m_cycle_from (aCons (fVar 0) (aCons (fVar 4) aNil))))
  (sSeq (sApp 3 (fVar 5))
  (sSeq (sFor (iSeq (fVar 5)) (gN 6)
  l_cycles_from_2)
  sNil)))
  sNil)
  sNil)
omit [TabSet] in
@[simp] def s_cycles_from_2 : MS := (sFor (iSeq (fVar 1)) (gN 4)
  l_cycles_from_1)
omit [TabSet] in
@[simp] def s_cycles_from_1 : MS := (sSetO 3 (lLst aNil))
omit [TabSet] in
@[simp] def s_cycles_from_0 : MS := (sSetB 2 (oNew (fun _ => false)))
/-! cycles_from -/
omit [TabSet] in
@[simp] def b_cycles_from : MS := (sSeq s_cycles_from_0 (sSeq s_cycles_from_1 (sSeq s_cycles_from_2 (sSeq s_cycles_from_3 sNil))))
omit [TabSet] in
def m_cycles_from : MF := mOf 7 2 b_cycles_from
omit [TabSet] in
theorem sc_cycles_from : FnScope ["steps", "starts", "seen", "cycles", "start", "cycle", "number"] ["steps", "starts"] (defScope (topS 6)) := ⟨rfl, rfl, rfl, by decide +kernel, rfl, by decide +kernel, by decide +kernel⟩
theorem d_cycles_from (G : Env K mg) : DefOk P w K mg base "cycles_from" 2 (spF mg m_cycles_from) :=
  have Sc := sc_cycles_from
  def_pure (k := 1) G.f_cycles_from Sc (by decide) fun cdv A outer s H E F fa hr =>
  (s_cons (s_setB (i := 2) Sc.nd o_new)
  (s_cons (s_setO (i := 3) Sc.nd (f_lst a_nil))
  (s_cons (s_for (passes_of rfl) rfl (i_seq (e_var (i := 1))) (g_name (i := 4) Sc.nd)
  (s_cons (s_if (t_cmpR (i := 2) (ck_notinE hr) (e_var (i := 4)))
  (s_cons (s_set (i := 5) Sc.nd (e_call ((d_cycle_from G).mono (by decide)) hr (a_cons (e_var (i := 0)) (a_cons (e_var (i := 4)) a_nil))))
  (s_cons (s_app (i := 3) (e_var (i := 5)))
  (s_cons (s_for (passes_of rfl) rfl (i_seq (e_var (i := 5))) (g_name (i := 6) Sc.nd)
  (s_cons (s_putO hr (i := 2) (e_var (i := 6)) e_bl)
  s_nil))
  s_nil)))
  s_nil)
  s_nil))
  (s_cons (s_retO (i := 3))
  s_nil))))
/-! cycles_of -/
omit [TabSet] in
@[simp] def s_cycles_of_0 : MS := (sRet (fCall m_cycles_from (aCons (fVar 0) (aCons (fList (lRg (r1 (f1 uLen (fVar 0))))) aNil))))
/-! cycles_of -/
omit [TabSet] in
@[simp] def b_cycles_of : MS := (sSeq s_cycles_of_0 sNil)
omit [TabSet] in
def m_cycles_of : MF := mOf 1 1 b_cycles_of
omit [TabSet] in
theorem sc_cycles_of : FnScope ["steps"] ["steps"] (defScope (topS 7)) := ⟨rfl, rfl, rfl, by decide +kernel, rfl, by decide +kernel, by decide +kernel⟩
theorem d_cycles_of (G : Env K mg) : DefOk P w K mg base "cycles_of" 3 (spF mg m_cycles_of) :=
  have Sc := sc_cycles_of
  def_pure (k := 2) G.f_cycles_of Sc (by decide) fun cdv A outer s H E F fa hr =>
  (s_cons (s_ret (e_call ((d_cycles_from G).mono (by decide)) hr (a_cons (e_var (i := 0)) (a_cons (se_f (f_listRg (hc := rfl) (hm := G.n_list) (he := (rg_1 (hm := G.n_range) (ha := (e_len (hm := G.n_len) (ha := (x_of (e_var (i := 0)))))))))) a_nil))))
  s_nil)
/-! undone_steps -/
omit [TabSet] in
@[simp] def s_undone_steps_2 : MS := (sRetO 1)
omit [TabSet] in
def l_undone_steps_1 : MS := (sSeq (sAsg (gSubO 1 (pVar 3)) (fVar 2))
  sNil)
omit [TabSet] in
@[simp] def s_undone_steps_1 : MS := (sFor (iEnum (fVar 0)) (gT (gsCons (gN 2) (gsCons (gN 3) gsNil)))
  l_undone_steps_1)
omit [TabSet] in
@[simp] def s_undone_steps_0 : MS := (sSetO 1 (lMul (fList (lLst (aCons (fC (.int 0)) aNil))) (f1 uLen (fVar 0))))
/-! undone_steps -/
omit [TabSet] in
@[simp] def b_undone_steps : MS := (sSeq s_undone_steps_0 (sSeq s_undone_steps_1 (sSeq s_undone_steps_2 sNil)))
omit [TabSet] in
def m_undone_steps : MF := mOf 4 1 b_undone_steps
omit [TabSet] in
theorem sc_undone_steps : FnScope ["steps", "ahead", "number", "end"] ["steps"] (defScope (topS 8)) := ⟨rfl, rfl, rfl, by decide +kernel, rfl, by decide +kernel, by decide +kernel⟩
theorem d_undone_steps (G : Env K mg) : DefOk P w K mg base "undone_steps" 1 (spF mg m_undone_steps) :=
  have Sc := sc_undone_steps
  def_pure (k := 0) G.f_undone_steps Sc (by decide) fun cdv A outer s H E F fa hr =>
  (s_cons (s_setO (i := 1) Sc.nd (f_mulL (se_f (f_lst (a_cons e_int a_nil))) (e_len (hm := G.n_len) (ha := (x_of (e_var (i := 0)))))))
  (s_cons (s_for (passes_of rfl) rfl (i_enum (hm := G.n_enumerate) (ha := (e_var (i := 0)))) (g_tup rfl (gs_cons (g_name (i := 2) Sc.nd) (gs_cons (g_name (i := 3) Sc.nd) gs_nil)) rfl rfl (gsCons_len (gsCons_len gsNil_len)))
  (s_cons (s_asgh (e_var (i := 2)) (gh_sub (i := 1) (p_var (i := 3))))
  s_nil))
  (s_cons (s_retO (i := 1))
  s_nil)))
/-! first_unlike -/
omit [TabSet] in
@[simp] def s_first_unlike_1 : MS := (sRet (fC .none))
omit [TabSet] in
def l_first_unlike_1 : MS := (sSeq (sIf (fCmpT cNe (fOp ixE (fVar 1) (fVar 2)) (fOp ixE (fVar 1) (fOp ixE (fVar 0) (fC (.int 0)))))
  (sSeq (sRet (fTup (aCons (fOp ixE (fVar 0) (fC (.int 0))) (aCons (fVar 2) aNil))))
  sNil)
  sNil)
  sNil)
omit [TabSet] in
@[simp] def s_first_unlike_0 : MS := (sFor (iSeq (fVar 0)) (gN 2)
  l_first_unlike_1)
/-! first_unlike -/
omit [TabSet] in
@[simp] def b_first_unlike : MS := (sSeq s_first_unlike_0 (sSeq s_first_unlike_1 sNil))
omit [TabSet] in
def m_first_unlike : MF := mOf 3 2 b_first_unlike
omit [TabSet] in
theorem sc_first_unlike : FnScope ["numbers", "labels", "number"] ["numbers", "labels"] (defScope (topS 9)) := ⟨rfl, rfl, rfl, by decide +kernel, rfl, by decide +kernel, by decide +kernel⟩
theorem d_first_unlike (G : Env K mg) : DefOk P w K mg base "first_unlike" 1 (spF mg m_first_unlike) :=
  have Sc := sc_first_unlike
  def_pure (k := 0) G.f_first_unlike Sc (by decide) fun cdv A outer s H E F fa hr =>
  (s_cons (s_for (passes_of rfl) rfl (i_seq (e_var (i := 0))) (g_name (i := 2) Sc.nd)
  (s_cons (s_if (t_cmp (ck_ne hr) (e_ixE hr (e_var (i := 1)) (e_var (i := 2))) (e_ixE hr (e_var (i := 1)) (e_ixE hr (e_var (i := 0)) e_int)))
  (s_cons (s_ret (e_tup (a_cons (e_ixE hr (e_var (i := 0)) e_int) (a_cons (e_var (i := 2)) a_nil))))
  s_nil)
  s_nil)
  s_nil))
  (s_cons (s_ret e_non)
  s_nil))
/-! is_table -/
omit [TabSet] in
@[simp] def s_is_table_4 : MS := (sRet (f1 uAll (fList (lComp (lRg (r1 (fVar 1))) (gN 2) tTrue (fCmp cEq (f1 uCnt (fList (lComp (iSeq (fVar 0)) (gN 3) tTrue (fOp ixE (fVar 3) (fVar 2)) [3]))) (f1 uLen (fVar 0))) [2]))))
omit [TabSet] in
def t_is_table_4 : MS := (sSeq s_is_table_4 sNil)
omit [TabSet] in
@[simp] def s_is_table_3 : MS := (sIf (fOrT (fNotT (fChainT cLe cLe (fC (.int 1)) (fVar 1) (fC (.int 6)))) (fB (f1 uAny (fList (lComp (iSeq (fVar 0)) (gN 3) tTrue (fCmp cNe (f1 uLen (fVar 3)) (fVar 1)) [3])))))
  (sSeq (sRet (fC (.bool false)))
  sNil)
  sNil)
omit [TabSet] in
def t_is_table_3 : MS := (sSeq s_is_table_3 t_is_table_4)
omit [TabSet] in
@[simp] def s_is_table_2 : MS := (sSet 1 (f1 uLen (fOp ixE (fVar 0) (fC (.int 0)))))
omit [TabSet] in
def t_is_table_2 : MS := (sSeq s_is_table_2 t_is_table_3)
omit [TabSet] in
@[simp] def s_is_table_1 : MS := (sIf (fNotT (fB (f1 uAll (fList (lComp (iSeq (fVar 0)) (gN 3) tTrue (fCall m_are_indices (aCons (fVar 3) (aCons (f1 uLen (fVar 0)) aNil))) [3])))))
  (sSeq (sRet (fC (.bool false)))
  sNil)
  sNil)
omit [TabSet] in
def t_is_table_1 : MS := (sSeq s_is_table_1 t_is_table_2)
omit [TabSet] in
@[simp] def s_is_table_0 : MS := (sIf (fOrT (fNotT (fB (f1 (uIs "tuple") (fVar 0)))) (fNotT (fChainT cLe cLe (fC (.int 1)) (f1 uLen (fVar 0)) (fC (.int 720)))))
  (sSeq (sRet (fC (.bool false)))
  sNil)
  sNil)
/-! is_table -/
omit [TabSet] in
@[simp] def b_is_table : MS := (sSeq s_is_table_0 t_is_table_1)
omit [TabSet] in
def m_is_table : MF := mOf 4 1 b_is_table
omit [TabSet] in
theorem sc_is_table : FnScope ["value", "many", "way", "item"] ["value"] (defScope (topS 24)) := ⟨rfl, rfl, rfl, by decide +kernel, rfl, by decide +kernel, by decide +kernel⟩
theorem d_is_table (G : Env K mg) : DefOk P w K mg base "is_table" 4 (spF mg m_is_table) :=
  have Sc := sc_is_table
  def_pure (k := 3) G.f_is_table Sc (by decide) fun cdv A outer s H E F fa hr =>
  (s_cons (s_if (w_or (t_not (t_val (e_isi (T := "tuple") (hm := G.n_isinstance) (hmT := G.n_tuple) (hvT := by rfl) (ha := (x_of (e_var (i := 0))))))) (w_or1 (t_not (t_chain ck_le ck_le e_int (e_len (hm := G.n_len) (ha := (x_of (e_var (i := 0))))) (e_glob G.c_MOST_ITEMS))))).pt
  (s_cons (s_ret e_bl)
  s_nil)
  s_nil)
  (s_cons (s_if (t_not (t_val (e_all (hc := rfl) (hm := G.n_all) (ha := (x_f (e_lc' (own := [("item", 3)]) rfl Sc.nd (i_seq (e_var (i := 0))) (blkOk_by (by rfl)) (fun s H C cl fp => (g_name (i := 3) Sc.nd)) (fun s H C cl fp => ts_nil) (fun s H C cl fp => (e_call ((d_are_indices G).mono (by decide)) hr (a_cons (e_var (i := 3)) (a_cons (e_len (hm := G.n_len) (ha := (x_of (e_var (i := 0))))) a_nil))))))))))
  (s_cons (s_ret e_bl)
  s_nil)
  s_nil)
  (s_cons (s_set (i := 1) Sc.nd (e_len (hm := G.n_len) (ha := (x_of (e_ixE hr (e_var (i := 0)) e_int)))))
  (s_cons (s_if (w_or (t_not (t_chain ck_le ck_le e_int (e_var (i := 1)) (e_glob G.c_MOST_WAYS_OF_TABLE))) (w_or1 (t_val (e_any (hc := rfl) (hm := G.n_any) (ha := (x_f (e_lc' (own := [("item", 3)]) rfl Sc.nd (i_seq (e_var (i := 0))) (blkOk_by (by rfl)) (fun s H C cl fp => (g_name (i := 3) Sc.nd)) (fun s H C cl fp => ts_nil) (fun s H C cl fp => (e_cmp (ck_ne hr) (e_len (hm := G.n_len) (ha := (x_of (e_var (i := 3))))) (e_var (i := 1))))))))))).pt
  (s_cons (s_ret e_bl)
  s_nil)
  s_nil)
  (s_cons (s_ret (e_all (hc := rfl) (hm := G.n_all) (ha := (x_f (e_lc' (own := [("way", 2)]) rfl Sc.nd (i_rg1 (hm := G.n_range) (ha := (e_var (i := 1)))) (blkOk_by (by rfl)) (fun s H C cl fp => (g_name (i := 2) Sc.nd)) (fun s H C cl fp => ts_nil) (fun s H C cl fp => (e_cmp (ck_eq hr) (e_lenI rfl (hm := G.n_len) (hm2 := G.n_set) (ha := (x_f (e_lc' (own := [("item", 3)]) rfl Sc.nd (i_seq (e_var (i := 0))) (blkOk_by (by rfl)) (fun s H C cl fp => (g_name (i := 3) Sc.nd)) (fun s H C cl fp => ts_nil) (fun s H C cl fp => (e_ixE hr (e_var (i := 3)) (e_var (i := 2)))))))) (e_len (hm := G.n_len) (ha := (x_of (e_var (i := 0))))))))))))
  s_nil)))))
/-! check_table -/
omit [TabSet] in
@[simp] def s_check_table_0 : MS := (sIf (fNotT (fB (fCall m_is_table (aCons (fVar 0) aNil))))
  (sSeq (sRaise "InvalidTable")
  sNil)
  sNil)
/-! check_table -/
omit [TabSet] in
@[simp] def b_check_table : MS := (sSeq s_check_table_0 sNil)
omit [TabSet] in
def m_check_table : MF := mOf 1 1 b_check_table
omit [TabSet] in
theorem sc_check_table : FnScope ["table"] ["table"] (defScope (topS 19)) := ⟨rfl, rfl, rfl, by decide +kernel, rfl, by decide +kernel, by decide +kernel⟩
theorem d_check_table (G : Env K mg) : DefOk P w K mg base "check_table" 5 (spF mg m_check_table) :=
  have Sc := sc_check_table
  def_pure (k := 4) G.f_check_table Sc (by decide) fun cdv A outer s H E F fa hr =>
  (s_cons (s_if (t_not (t_val (e_call ((d_is_table G).mono (by decide)) hr (a_cons (e_var (i := 0)) a_nil))))
  (s_cons (s_raise rfl (takes_of rfl rfl rfl rfl) G.x_InvalidTable)
  s_nil)
  s_nil)
  s_nil)
/-! could_choose -/
omit [TabSet] in
@[simp] def s_could_choose_0 : MS := (sRet (fAndV (fCall m_are_indices (aCons (fVar 1) (aCons (f1 uLen (fOp ixE (fVar 0) (fC (.int 0)))) aNil))) (fCmp cEq (f1 uLen (fVar 1)) (f1 uLen (fVar 0)))))
/-! could_choose -/
omit [TabSet] in
@[simp] def b_could_choose : MS := (sSeq s_could_choose_0 sNil)
omit [TabSet] in
def m_could_choose : MF := mOf 2 2 b_could_choose
omit [TabSet] in
theorem sc_could_choose : FnScope ["table", "value"] ["table", "value"] (defScope (topS 20)) := ⟨rfl, rfl, rfl, by decide +kernel, rfl, by decide +kernel, by decide +kernel⟩
theorem d_could_choose (G : Env K mg) : DefOk P w K mg base "could_choose" 4 (spF mg m_could_choose) :=
  have Sc := sc_could_choose
  def_pure (k := 3) G.f_could_choose Sc (by decide) fun cdv A outer s H E F fa hr =>
  (s_cons (s_ret (e_and (e_call ((d_are_indices G).mono (by decide)) hr (a_cons (e_var (i := 1)) (a_cons (e_len (hm := G.n_len) (ha := (x_of (e_ixE hr (e_var (i := 0)) e_int)))) a_nil))) (e_one (e_cmp (ck_eq hr) (e_len (hm := G.n_len) (ha := (x_of (e_var (i := 1))))) (e_len (hm := G.n_len) (ha := (x_of (e_var (i := 0)))))))))
  s_nil)
/-! check_choice -/
omit [TabSet] in
@[simp] def s_check_choice_0 : MS := (sIf (fNotT (fB (fCall m_could_choose (aCons (fVar 0) (aCons (fVar 1) aNil)))))
  (sSeq (sRaise "InvalidChoice")
  sNil)
  sNil)
/-! check_choice -/
omit [TabSet] in
@[simp] def b_check_choice : MS := (sSeq s_check_choice_0 sNil)
omit [TabSet] in
def m_check_choice : MF := mOf 2 2 b_check_choice
omit [TabSet] in
theorem sc_check_choice : FnScope ["table", "choice"] ["table", "choice"] (defScope (topS 21)) := ⟨rfl, rfl, rfl, by decide +kernel, rfl, by decide +kernel, by decide +kernel⟩
theorem d_check_choice (G : Env K mg) : DefOk P w K mg base "check_choice" 5 (spF mg m_check_choice) :=
  have Sc := sc_check_choice
  def_pure (k := 4) G.f_check_choice Sc (by decide) fun cdv A outer s H E F fa hr =>
  (s_cons (s_if (t_not (t_val (e_call ((d_could_choose G).mono (by decide)) hr (a_cons (e_var (i := 0)) (a_cons (e_var (i := 1)) a_nil)))))
  (s_cons (s_raise rfl (takes_of rfl rfl rfl rfl) G.x_InvalidChoice)
  s_nil)
  s_nil)
  s_nil)
/-! ends_by -/
omit [TabSet] in
@[simp] def s_ends_by_0 : MS := (sRet (f1 uTup (fList (lComp (iZip2 (fVar 0) (fVar 1)) (gT (gsCons (gN 2) (gsCons (gN 3) gsNil))) tTrue (fOp ixE (fVar 2) (fVar 3)) [2, 3]))))
/-! ends_by -/
omit [TabSet] in
@[simp] def b_ends_by : MS := (sSeq s_ends_by_0 sNil)
omit [TabSet] in
def m_ends_by : MF := mOf 4 2 b_ends_by
omit [TabSet] in
theorem sc_ends_by : FnScope ["table", "choice", "item", "way"] ["table", "choice"] (defScope (topS 22)) := ⟨rfl, rfl, rfl, by decide +kernel, rfl, by decide +kernel, by decide +kernel⟩
theorem d_ends_by (G : Env K mg) : DefOk P w K mg base "ends_by" 1 (spF mg m_ends_by) :=
  have Sc := sc_ends_by
  def_pure (k := 0) G.f_ends_by Sc (by decide) fun cdv A outer s H E F fa hr =>
  (s_cons (s_ret (e_tupOf (hm := G.n_tuple) (ha := (x_f (e_lc' (own := [("item", 2), ("way", 3)]) rfl Sc.nd (i_zip (hm := G.n_zip) (ha := (e_var (i := 0))) (hb := (e_var (i := 1)))) (blkOk_by (by rfl)) (fun s H C cl fp => (g_tup rfl (gs_cons (g_name (i := 2) Sc.nd) (gs_cons (g_name (i := 3) Sc.nd) gs_nil)) rfl rfl (gsCons_len (gsCons_len gsNil_len)))) (fun s H C cl fp => ts_nil) (fun s H C cl fp => (e_ixE hr (e_var (i := 2)) (e_var (i := 3)))))))))
  s_nil)
/-! first_meeting -/
omit [TabSet] in
@[simp] def s_first_meeting_2 : MS := (sRet (fC .none))
omit [TabSet] in
def l_first_meeting_1 : MS := (sSeq (sIf (fCmpRT 2 cInE (fVar 4))
  (sSeq (sRet (fTup (aCons (fIxO 2 (fVar 4)) (aCons (fVar 3) aNil))))
  sNil)
  sNil)
  (sSeq (sPutO 2 (fVar 4) (fVar 3))
  sNil))
omit [TabSet] in
@[simp] def s_first_meeting_1 : MS := (sFor (iEnum (fCall m_ends_by (aCons (fVar 0) (aCons (fVar 1) aNil)))) (gT (gsCons (gN 3) (gsCons (gN 4) gsNil)))
  l_first_meeting_1)
omit [TabSet] in
@[simp] def s_first_meeting_0 : MS := (sSetB 2 (oNew (fun _ => false)))
/-! first_meeting -/
omit [TabSet] in
@[simp] def b_first_meeting : MS := (sSeq s_first_meeting_0 (sSeq s_first_meeting_1 (sSeq s_first_meeting_2 sNil)))
omit [TabSet] in
def m_first_meeting : MF := mOf 5 2 b_first_meeting
omit [TabSet] in
theorem sc_first_meeting : FnScope ["table", "choice", "come_from", "number", "end"] ["table", "choice"] (defScope (topS 23)) := ⟨rfl, rfl, rfl, by decide +kernel, rfl, by decide +kernel, by decide +kernel⟩
theorem d_first_meeting (G : Env K mg) : DefOk P w K mg base "first_meeting" 2 (spF mg m_first_meeting) :=
  have Sc := sc_first_meeting
  def_pure (k := 1) G.f_first_meeting Sc (by decide) fun cdv A outer s H E F fa hr =>
  (s_cons (s_setB (i := 2) Sc.nd o_new)
  (s_cons (s_for (passes_of rfl) rfl (i_enum (hm := G.n_enumerate) (ha := (e_call ((d_ends_by G).mono (by decide)) hr (a_cons (e_var (i := 0)) (a_cons (e_var (i := 1)) a_nil))))) (g_tup rfl (gs_cons (g_name (i := 3) Sc.nd) (gs_cons (g_name (i := 4) Sc.nd) gs_nil)) rfl rfl (gsCons_len (gsCons_len gsNil_len)))
  (s_cons (s_if (t_cmpR (i := 2) (ck_inE hr) (e_var (i := 4)))
  (s_cons (s_ret (e_tup (a_cons (e_ixO hr (i := 2) (e_var (i := 4))) (a_cons (e_var (i := 3)) a_nil))))
  s_nil)
  s_nil)
  (s_cons (s_putO hr (i := 2) (e_var (i := 4)) (e_var (i := 3)))
  s_nil)))
  (s_cons (s_ret e_non)
  s_nil)))
/-! two_that_meet -/
omit [TabSet] in
@[simp] def s_two_that_meet_2 : MS := (sRet (fCall m_first_meeting (aCons (fVar 0) (aCons (fVar 1) aNil))))
omit [TabSet] in
@[simp] def s_two_that_meet_1 : MS := (sCall m_check_choice (aCons (fVar 0) (aCons (fVar 1) aNil)))
omit [TabSet] in
@[simp] def s_two_that_meet_0 : MS := (sCall m_check_table (aCons (fVar 0) aNil))
/-! two_that_meet -/
omit [TabSet] in
@[simp] def b_two_that_meet : MS := (sSeq s_two_that_meet_0 (sSeq s_two_that_meet_1 (sSeq s_two_that_meet_2 sNil)))
omit [TabSet] in
def m_two_that_meet : MF := mOf 2 2 b_two_that_meet
omit [TabSet] in
theorem sc_two_that_meet : FnScope ["table", "choice"] ["table", "choice"] (defScope (topS 25)) := ⟨rfl, rfl, rfl, by decide +kernel, rfl, by decide +kernel, by decide +kernel⟩
theorem d_two_that_meet (G : Env K mg) : DefOk P w K mg base "two_that_meet" 6 (spF mg m_two_that_meet) :=
  have Sc := sc_two_that_meet
  def_pure (k := 5) G.f_two_that_meet Sc (by decide) fun cdv A outer s H E F fa hr =>
  (s_cons (s_call (takes_of rfl rfl rfl rfl) ((d_check_table G).mono (by decide)) hr (a_cons (e_var (i := 0)) a_nil))
  (s_cons (s_call (takes_of rfl rfl rfl rfl) ((d_check_choice G).mono (by decide)) hr (a_cons (e_var (i := 0)) (a_cons (e_var (i := 1)) a_nil)))
  (s_cons (s_ret (e_call ((d_first_meeting G).mono (by decide)) hr (a_cons (e_var (i := 0)) (a_cons (e_var (i := 1)) a_nil))))
  s_nil)))
/-! undone_way -/
omit [TabSet] in
@[simp] def s_undone_way_0 : MS := (sRet (fCall m_undone_steps (aCons (fList (lComp (iSeq (fVar 0)) (gN 2) tTrue (fOp ixE (fVar 2) (fVar 1)) [2])) aNil)))
/-! undone_way -/
omit [TabSet] in
@[simp] def b_undone_way : MS := (sSeq s_undone_way_0 sNil)
omit [TabSet] in
def m_undone_way : MF := mOf 3 2 b_undone_way
omit [TabSet] in
theorem sc_undone_way : FnScope ["table", "way", "item"] ["table", "way"] (defScope (topS 27)) := ⟨rfl, rfl, rfl, by decide +kernel, rfl, by decide +kernel, by decide +kernel⟩
theorem d_undone_way (G : Env K mg) : DefOk P w K mg base "undone_way" 2 (spF mg m_undone_way) :=
  have Sc := sc_undone_way
  def_pure (k := 1) G.f_undone_way Sc (by decide) fun cdv A outer s H E F fa hr =>
  (s_cons (s_ret (e_call ((d_undone_steps G).mono (by decide)) hr (a_cons (se_f (e_lc' (own := [("item", 2)]) rfl Sc.nd (i_seq (e_var (i := 0))) (blkOk_by (by rfl)) (fun s H C cl fp => (g_name (i := 2) Sc.nd)) (fun s H C cl fp => ts_nil) (fun s H C cl fp => (e_ixE hr (e_var (i := 2)) (e_var (i := 1)))))) a_nil)))
  s_nil)
/-! followers -/
omit [TabSet] in
@[simp] def s_followers_1 : MS := (sRet (fList (lComp (iSeq (fVar 0)) (gN 4) tTrue (fOp ixE (fVar 3) (fOp ixE (fVar 4) (fVar 1))) [4])))
omit [TabSet] in
@[simp] def s_followers_0 : MS := (sSet 3 (fCall m_undone_way (aCons (fVar 0) (aCons (fVar 2) aNil))))
/-! followers -/
omit [TabSet] in
@[simp] def b_followers : MS := (sSeq s_followers_0 (sSeq s_followers_1 sNil))
omit [TabSet] in
def m_followers : MF := mOf 5 3 b_followers
omit [TabSet] in
theorem sc_followers : FnScope ["table", "one", "two", "ahead", "item"] ["table", "one", "two"] (defScope (topS 28)) := ⟨rfl, rfl, rfl, by decide +kernel, rfl, by decide +kernel, by decide +kernel⟩
theorem d_followers (G : Env K mg) : DefOk P w K mg base "followers" 3 (spF mg m_followers) :=
  have Sc := sc_followers
  def_pure (k := 2) G.f_followers Sc (by decide) fun cdv A outer s H E F fa hr =>
  (s_cons (s_set (i := 3) Sc.nd (e_call ((d_undone_way G).mono (by decide)) hr (a_cons (e_var (i := 0)) (a_cons (e_var (i := 2)) a_nil))))
  (s_cons (s_ret (se_f (e_lc' (own := [("item", 4)]) rfl Sc.nd (i_seq (e_var (i := 0))) (blkOk_by (by rfl)) (fun s H C cl fp => (g_name (i := 4) Sc.nd)) (fun s H C cl fp => ts_nil) (fun s H C cl fp => (e_ixE hr (e_var (i := 3)) (e_ixE hr (e_var (i := 4)) (e_var (i := 1))))))))
  s_nil))
/-! all_classes -/
omit [TabSet] in
@[simp] def s_all_classes_0 : MS := (sRet (fCall m_cycles_of (aCons (fCall m_followers (aCons (fVar 0) (aCons (fVar 1) (aCons (fVar 2) aNil)))) aNil)))
/-! all_classes -/
omit [TabSet] in
@[simp] def b_all_classes : MS := (sSeq s_all_classes_0 sNil)
omit [TabSet] in
def m_all_classes : MF := mOf 3 3 b_all_classes
omit [TabSet] in
theorem sc_all_classes : FnScope ["table", "one", "two"] ["table", "one", "two"] (defScope (topS 29)) := ⟨rfl, rfl, rfl, by decide +kernel, rfl, by decide +kernel, by decide +kernel⟩
theorem d_all_classes (G : Env K mg) : DefOk P w K mg base "all_classes" 4 (spF mg m_all_classes) :=
  have Sc := sc_all_classes
  def_pure (k := 3) G.f_all_classes Sc (by decide) fun cdv A outer s H E F fa hr =>
  (s_cons (s_ret (e_call ((d_cycles_of G).mono (by decide)) hr (a_cons (e_call ((d_followers G).mono (by decide)) hr (a_cons (e_var (i := 0)) (a_cons (e_var (i := 1)) (a_cons (e_var (i := 2)) a_nil)))) a_nil)))
  s_nil)
/-! check_two -/
omit [TabSet] in
@[simp] def s_check_two_1 : MS := (sIf (fCmpT cNe (f1 uLen (fOp ixE (fVar 0) (fC (.int 0)))) (fC (.int 2)))
  (sSeq (sRaise "NotTwo")
  sNil)
  sNil)
omit [TabSet] in
@[simp] def s_check_two_0 : MS := (sCall m_check_table (aCons (fVar 0) aNil))
/-! check_two -/
omit [TabSet] in
@[simp] def b_check_two : MS := (sSeq s_check_two_0 (sSeq s_check_two_1 sNil))
omit [TabSet] in
def m_check_two : MF := mOf 1 1 b_check_two
omit [TabSet] in
theorem sc_check_two : FnScope ["two"] ["two"] (defScope (topS 31)) := ⟨rfl, rfl, rfl, by decide +kernel, rfl, by decide +kernel, by decide +kernel⟩
theorem d_check_two (G : Env K mg) : DefOk P w K mg base "check_two" 6 (spF mg m_check_two) :=
  have Sc := sc_check_two
  def_pure (k := 5) G.f_check_two Sc (by decide) fun cdv A outer s H E F fa hr =>
  (s_cons (s_call (takes_of rfl rfl rfl rfl) ((d_check_table G).mono (by decide)) hr (a_cons (e_var (i := 0)) a_nil))
  (s_cons (s_if (t_cmp (ck_ne hr) (e_len (hm := G.n_len) (ha := (x_of (e_ixE hr (e_var (i := 0)) e_int)))) e_int)
  (s_cons (s_raise rfl (takes_of rfl rfl rfl rfl) G.x_NotTwo)
  s_nil)
  s_nil)
  s_nil))
/-! check_told -/
omit [TabSet] in
@[simp] def s_check_told_3 : MS := (sIf (fOrT (fNotT (fB (fCall m_are_ascending (aCons (fVar 2) (aCons (f1 uLen (fVar 0)) aNil))))) (fNotT (fB (fCall m_are_indices (aCons (fVar 3) (aCons (f1 uLen (fOp ixE (fVar 0) (fC (.int 0)))) aNil))))))
  (sSeq (sRaise "InvalidTold")
  sNil)
  sNil)
omit [TabSet] in
@[simp] def s_check_told_2 : MS := (sSet 3 (f1 uTup (fList (lComp (iSeq (fVar 1)) (gN 4) tTrue (fOp ixE (fVar 4) (fC (.int 1))) [4]))))
omit [TabSet] in
@[simp] def s_check_told_1 : MS := (sSet 2 (f1 uTup (fList (lComp (iSeq (fVar 1)) (gN 4) tTrue (fOp ixE (fVar 4) (fC (.int 0))) [4]))))
omit [TabSet] in
@[simp] def s_check_told_0 : MS := (sIf (fOrT (fNotT (fB (f1 (uIs "tuple") (fVar 1)))) (fNotT (fB (f1 uAll (fList (lComp (iSeq (fVar 1)) (gN 4) tTrue (fAndV (f1 (uIs "tuple") (fVar 4)) (fCmp cEq (f1 uLen (fVar 4)) (fC (.int 2)))) [4]))))))
  (sSeq (sRaise "InvalidTold")
  sNil)
  sNil)
/-! check_told -/
omit [TabSet] in
@[simp] def b_check_told : MS := (sSeq s_check_told_0 (sSeq s_check_told_1 (sSeq s_check_told_2 (sSeq s_check_told_3 sNil))))
omit [TabSet] in
def m_check_told : MF := mOf 5 2 b_check_told
omit [TabSet] in
theorem sc_check_told : FnScope ["table", "told", "numbers", "ways", "pair"] ["table", "told"] (defScope (topS 32)) := ⟨rfl, rfl, rfl, by decide +kernel, rfl, by decide +kernel, by decide +kernel⟩
theorem d_check_told (G : Env K mg) : DefOk P w K mg base "check_told" 5 (spF mg m_check_told) :=
  have Sc := sc_check_told
  def_pure (k := 4) G.f_check_told Sc (by decide) fun cdv A outer s H E F fa hr =>
  (s_cons (s_if (w_or (t_not (t_val (e_isi (T := "tuple") (hm := G.n_isinstance) (hmT := G.n_tuple) (hvT := by rfl) (ha := (x_of (e_var (i := 1))))))) (w_or1 (t_not (t_val (e_all (hc := rfl) (hm := G.n_all) (ha := (x_f (e_lc' (own := [("pair", 4)]) rfl Sc.nd (i_seq (e_var (i := 1))) (blkOk_by (by rfl)) (fun s H C cl fp => (g_name (i := 4) Sc.nd)) (fun s H C cl fp => ts_nil) (fun s H C cl fp => (e_and (e_isi (T := "tuple") (hm := G.n_isinstance) (hmT := G.n_tuple) (hvT := by rfl) (ha := (x_of (e_var (i := 4))))) (e_one (e_cmp (ck_eq hr) (e_len (hm := G.n_len) (ha := (x_of (e_var (i := 4))))) e_int)))))))))))).pt
  (s_cons (s_raise rfl (takes_of rfl rfl rfl rfl) G.x_InvalidTold)
  s_nil)
  s_nil)
  (s_cons (s_set (i := 2) Sc.nd (e_tupOf (hm := G.n_tuple) (ha := (x_f (e_lc' (own := [("pair", 4)]) rfl Sc.nd (i_seq (e_var (i := 1))) (blkOk_by (by rfl)) (fun s H C cl fp => (g_name (i := 4) Sc.nd)) (fun s H C cl fp => ts_nil) (fun s H C cl fp => (e_ixE hr (e_var (i := 4)) e_int)))))))
  (s_cons (s_set (i := 3) Sc.nd (e_tupOf (hm := G.n_tuple) (ha := (x_f (e_lc' (own := [("pair", 4)]) rfl Sc.nd (i_seq (e_var (i := 1))) (blkOk_by (by rfl)) (fun s H C cl fp => (g_name (i := 4) Sc.nd)) (fun s H C cl fp => ts_nil) (fun s H C cl fp => (e_ixE hr (e_var (i := 4)) e_int)))))))
  (s_cons (s_if (w_or (t_not (t_val (e_call ((d_are_ascending G).mono (by decide)) hr (a_cons (e_var (i := 2)) (a_cons (e_len (hm := G.n_len) (ha := (x_of (e_var (i := 0))))) a_nil))))) (w_or1 (t_not (t_val (e_call ((d_are_indices G).mono (by decide)) hr (a_cons (e_var (i := 3)) (a_cons (e_len (hm := G.n_len) (ha := (x_of (e_ixE hr (e_var (i := 0)) e_int)))) a_nil))))))).pt
  (s_cons (s_raise rfl (takes_of rfl rfl rfl rfl) G.x_InvalidTold)
  s_nil)
  s_nil)
  s_nil))))
/-! all_ties -/
omit [TabSet] in
@[simp] def s_all_ties_0 : MS := (sRet (fList (lComp (iSeq (fCall m_all_classes (aCons (fVar 0) (aCons (fC (.int 0)) (aCons (fC (.int 1)) aNil))))) (gN 1) tTrue (f1 uTup (f1 uSort3 (fVar 1))) [1])))
/-! all_ties -/
omit [TabSet] in
@[simp] def b_all_ties : MS := (sSeq s_all_ties_0 sNil)
omit [TabSet] in
def m_all_ties : MF := mOf 2 1 b_all_ties
omit [TabSet] in
theorem sc_all_ties : FnScope ["two", "numbers"] ["two"] (defScope (topS 33)) := ⟨rfl, rfl, rfl, by decide +kernel, rfl, by decide +kernel, by decide +kernel⟩
theorem d_all_ties (G : Env K mg) : DefOk P w K mg base "all_ties" 5 (spF mg m_all_ties) :=
  have Sc := sc_all_ties
  def_pure (k := 4) G.f_all_ties Sc (by decide) fun cdv A outer s H E F fa hr =>
  (s_cons (s_ret (se_f (e_lc' (own := [("numbers", 1)]) rfl Sc.nd (i_seq (e_call ((d_all_classes G).mono (by decide)) hr (a_cons (e_var (i := 0)) (a_cons e_int (a_cons e_int a_nil))))) (blkOk_by (by rfl)) (fun s H C cl fp => (g_name (i := 1) Sc.nd)) (fun s H C cl fp => ts_nil) (fun s H C cl fp => (e_tupOf (hm := G.n_tuple) (ha := (x_of (e_sort3 (hr := hr) (hc := rfl) (hm := G.n_sorted) (ha := (x_of (e_var (i := 1))))))))))))
  s_nil)
/-! first_apart -/
omit [TabSet] in
@[simp] def s_first_apart_1 : MS := (sRet (fMinE (fList (lComp (iSeq (fVar 2)) (gN 4) (fCmpT cIsN (fVar 4) (fC .none)) (fVar 4) [4]))))
omit [TabSet] in
@[simp] def s_first_apart_0 : MS := (sSet 2 (fList (lComp (iSeq (fVar 0)) (gN 3) tTrue (fCall m_first_unlike (aCons (fList (lComp (iSeq (fVar 3)) (gN 5) (fCmpT cInE (fVar 5) (fVar 1)) (fVar 5) [5])) (aCons (fVar 1) aNil))) [3])))
/-! first_apart -/
omit [TabSet] in
@[simp] def b_first_apart : MS := (sSeq s_first_apart_0 (sSeq s_first_apart_1 sNil))
omit [TabSet] in
def m_first_apart : MF := mOf 6 2 b_first_apart
omit [TabSet] in
theorem sc_first_apart : FnScope ["ties", "ways", "pairs", "tie", "pair", "number"] ["ties", "ways"] (defScope (topS 34)) := ⟨rfl, rfl, rfl, by decide +kernel, rfl, by decide +kernel, by decide +kernel⟩
theorem d_first_apart (G : Env K mg) : DefOk P w K mg base "first_apart" 2 (spF mg m_first_apart) :=
  have Sc := sc_first_apart
  def_pure (k := 1) G.f_first_apart Sc (by decide) fun cdv A outer s H E F fa hr =>
  (s_cons (s_lc (i := 2) (own := [("tie", 3)]) rfl Sc.nd (i_seq (e_var (i := 0))) (blkOk_by (by rfl)) (fun s H C cl fp => (g_name (i := 3) Sc.nd)) (fun s H C cl fp => ts_nil) (fun s H C cl fp => (e_call ((d_first_unlike G).mono (by decide)) hr (a_cons (se_f (e_lc' (own := [("number", 5)]) rfl Sc.nd (i_seq (e_var (i := 3))) (blkOk_by (by rfl)) (fun s H C cl fp => (g_name (i := 5) Sc.nd)) (fun s H C cl fp => (ts_one (t_cmp (ck_inE hr) (e_var (i := 5)) (e_var (i := 1))))) (fun s H C cl fp => (e_var (i := 5))))) (a_cons (e_var (i := 1)) a_nil)))))
  (s_cons (s_ret (e_minE hr rfl (hm := G.n_min) (ha := (x_f (e_lc' (own := [("pair", 4)]) rfl Sc.nd (i_seq (e_var (i := 2))) (blkOk_by (by rfl)) (fun s H C cl fp => (g_name (i := 4) Sc.nd)) (fun s H C cl fp => (ts_one (t_cmp ck_isn (e_var (i := 4)) e_non))) (fun s H C cl fp => (e_var (i := 4)))))) (hb := pe_non)))
  s_nil))
/-! ties_of -/
omit [TabSet] in
@[simp] def s_ties_of_1 : MS := (sRet (fCall m_all_ties (aCons (fVar 0) aNil)))
omit [TabSet] in
@[simp] def s_ties_of_0 : MS := (sCall m_check_two (aCons (fVar 0) aNil))
/-! ties_of -/
omit [TabSet] in
@[simp] def b_ties_of : MS := (sSeq s_ties_of_0 (sSeq s_ties_of_1 sNil))
omit [TabSet] in
def m_ties_of : MF := mOf 1 1 b_ties_of
omit [TabSet] in
theorem sc_ties_of : FnScope ["two"] ["two"] (defScope (topS 35)) := ⟨rfl, rfl, rfl, by decide +kernel, rfl, by decide +kernel, by decide +kernel⟩
theorem d_ties_of (G : Env K mg) : DefOk P w K mg base "ties_of" 7 (spF mg m_ties_of) :=
  have Sc := sc_ties_of
  def_pure (k := 6) G.f_ties_of Sc (by decide) fun cdv A outer s H E F fa hr =>
  (s_cons (s_call (takes_of rfl rfl rfl rfl) ((d_check_two G).mono (by decide)) hr (a_cons (e_var (i := 0)) a_nil))
  (s_cons (s_ret (e_call ((d_all_ties G).mono (by decide)) hr (a_cons (e_var (i := 0)) a_nil)))
  s_nil))
/-! count_two -/
omit [TabSet] in
@[simp] def s_count_two_4 : MS := (sRet (fOp opShl (fC (.int 1)) (f1 uLen (fList (lComp (iSeq (fVar 2)) (gN 6) (fNotT (fB (f1 uAny (fList (lComp (iSeq (fVar 6)) (gN 4) tTrue (fCmp cInE (fVar 4) (fVar 3)) [4]))))) (fVar 6) [6])))))
omit [TabSet] in
def t_count_two_4 : MS := (sSeq s_count_two_4 sNil)
omit [TabSet] in
@[simp] def s_count_two_3 : MS := (sGive 3 (sIf (fCmpT cIsN (fCall m_first_apart (aCons (fVar 2) (aCons (fVar 3) aNil))) (fC .none))
  (sSeq (sRet (fC (.int 0)))
  sNil)
  sNil))
omit [TabSet] in
def t_count_two_3 : MS := (sSeq s_count_two_3 t_count_two_4)
omit [TabSet] in
@[simp] def s_count_two_2 : MS := (sParEB 2 3 (fCall m_all_ties (aCons (fVar 0) aNil)) (oComp (iSeq (fVar 1)) (gT (gsCons (gN 4) (gsCons (gN 5) gsNil))) tTrue (fVar 4) (fVar 5) [4, 5]))
omit [TabSet] in
def t_count_two_2 : MS := (sSeq s_count_two_2 t_count_two_3)
omit [TabSet] in
@[simp] def s_count_two_1 : MS := (sCall m_check_told (aCons (fVar 0) (aCons (fVar 1) aNil)))
omit [TabSet] in
def t_count_two_1 : MS := (sSeq s_count_two_1 t_count_two_2)
omit [TabSet] in
@[simp] def s_count_two_0 : MS := (sCall m_check_two (aCons (fVar 0) aNil))
/-! count_two -/
omit [TabSet] in
@[simp] def b_count_two : MS := (sSeq s_count_two_0 t_count_two_1)
omit [TabSet] in
def m_count_two : MF := mOf 7 2 b_count_two
omit [TabSet] in
theorem sc_count_two : FnScope ["two", "told", "ties", "ways", "number", "way", "tie"] ["two", "told"] (defScope (topS 36)) := ⟨rfl, rfl, rfl, by decide +kernel, rfl, by decide +kernel, by decide +kernel⟩
theorem d_count_two (G : Env K mg) : DefOk P w K mg base "count_two" 7 (spF mg m_count_two) :=
  have Sc := sc_count_two
  def_pure (k := 6) G.f_count_two Sc (by decide) fun cdv A outer s H E F fa hr =>
  (s_cons (s_call (takes_of rfl rfl rfl rfl) ((d_check_two G).mono (by decide)) hr (a_cons (e_var (i := 0)) a_nil))
  (s_cons (s_call (takes_of rfl rfl rfl rfl) ((d_check_told G).mono (by decide)) hr (a_cons (e_var (i := 0)) (a_cons (e_var (i := 1)) a_nil)))
  (s_cons (s_parEBc (i := 2) (j := 3) rfl Sc.nd (e_call ((d_all_ties G).mono (by decide)) hr (a_cons (e_var (i := 0)) a_nil)) (o_dc (own := [("number", 4), ("way", 5)]) rfl Sc.nd (i_seq (e_var (i := 1))) (blkOk_by (by rfl)) (fun s H C cl fp => (g_tup rfl (gs_cons (g_name (i := 4) Sc.nd) (gs_cons (g_name (i := 5) Sc.nd) gs_nil)) rfl rfl (gsCons_len (gsCons_len gsNil_len)))) (fun s H C cl fp => ts_nil) (fun s H C cl fp => (e_var (i := 4))) (fun s H C cl fp => (e_var (i := 5)))))
  (s_cons (s_give (i := 3) (s_if (t_cmp ck_isn (e_call ((d_first_apart G).mono (by decide)) hr (a_cons (e_var (i := 2)) (a_cons (e_var (i := 3)) a_nil))) e_non)
  (s_cons (s_ret e_int)
  s_nil)
  s_nil))
  (s_cons (s_ret (e_shl e_int (e_len (hm := G.n_len) (ha := (x_f (e_lc' (own := [("tie", 6)]) rfl Sc.nd (i_seq (e_var (i := 2))) (blkOk_by (by rfl)) (fun s H C cl fp => (g_name (i := 6) Sc.nd)) (fun s H C cl fp => (ts_one (t_not (t_val (e_any (hc := rfl) (hm := G.n_any) (ha := (x_f (e_lc' (own := [("number", 4)]) rfl Sc.nd (i_seq (e_var (i := 6))) (blkOk_by (by rfl)) (fun s H C cl fp => (g_name (i := 4) Sc.nd)) (fun s H C cl fp => ts_nil) (fun s H C cl fp => (e_cmp (ck_inE hr) (e_var (i := 4)) (e_var (i := 3)))))))))))) (fun s H C cl fp => (e_var (i := 6)))))))))
  s_nil)))))
/-! _law_cup -/
/-! _law_cup -/
omit [TabSet] in
@[simp] def b_law_cup : MA := (oSeq (sSet 1 (f1 uAbs (fOp ixE (fOp opAdd (fList (lScr 0)) (fList (lLst (aCons (fC (.int 0)) aNil)))) (fC (.int 0)))))
  (lLst (aCons (fIf (fCmpT cGe (fVar 1) (fOp opPow (fC (.int 10)) (fC (.int 18)))) (fOp opDiv (fVar 1) (fC (.int 29))) (fC (.int 0))) (aCons (fOp opAdd (fOp opMod (f1 uInt (fOp opAdd (fOp opMulA (fVar 1) (fC (.int 229))) (fC (.int 1709)))) (fC (.int 2077503719))) (fC (.int 109))) aNil))))
omit [TabSet] in
def m_law_cup : MO := mOfO 2 b_law_cup
omit [TabSet] in
theorem sc_law_cup : FnScope ["_law_script", "_law_cell"] ["_law_script"] (defScope (topS 38)) := ⟨rfl, rfl, rfl, by decide +kernel, rfl, by decide +kernel, by decide +kernel⟩
theorem d_law_cup (G : Env K mg) : DefOk P w K mg base "_law_cup" 1 (spO K m_law_cup) :=
  have Sc := sc_law_cup
  def_made (k := 0) G.f_law_cup Sc (by decide) fun cdv A outer s H E F fa hr =>
  (o_cons (s_set (i := 1) Sc.nd (e_abs (hm := G.n_abs) (ha := (x_of (e_ixE hr (e_add (se_f (f_listScr (i := 0) (hm := G.n_list))) (se_f (f_lst (a_cons e_int a_nil)))) e_int)))))
  (o_ret (f_lst (a_cons (e_if (t_cmp ck_ge (e_var (i := 1)) (e_pow e_int e_int)) (e_fdiv (e_var (i := 1)) e_int) e_int) (a_cons (e_add (e_mod (e_intOf (hm := G.n_int) (ha := (x_of (e_add (e_mulA (e_var (i := 1)) e_int) e_int)))) e_int) e_int) a_nil)))))
/-! _law_roll -/
omit [TabSet] in
@[simp] def s_law_roll_3 : MS := (sRet (fOp opMod (f1 uInt (fOp opDiv (fVar 2) (fC (.int 751)))) (fVar 1)))
omit [TabSet] in
@[simp] def s_law_roll_2 : MS := (sSet 2 (fOp opMod (f1 uInt (fOp opMulA (fIxX (fPeek 0) (pC (.int 1))) (fOp opAdd (fIxX (fPeek 0) (pC (.int 1))) (fC (.int 179))))) (fC (.int 2147483587))))
omit [TabSet] in
@[simp] def s_law_roll_1 : MS := (sAsg (gSubO 0 (pC (.int 1))) (fOp opMod (f1 uInt (fOp opAdd (fOp opMulA (fIxX (fPeek 0) (pC (.int 1))) (fC (.int 30911))) (fC (.int 7901)))) (fC (.int 2147483423))))
omit [TabSet] in
@[simp] def s_law_roll_0 : MS := (sIf (fCmpT cGt (fIxX (fPeek 0) (pC (.int 0))) (fC (.int 0)))
  (sSeq (sSet 3 (fOp opMod (f1 uInt (fIxX (fPeek 0) (pC (.int 0)))) (fVar 1)))
  (sSeq (sAsg (gSubO 0 (pC (.int 0))) (fOp opDiv (fIxX (fPeek 0) (pC (.int 0))) (fVar 1)))
  (sSeq (sRet (fVar 3))
  sNil)))
  sNil)
/-! _law_roll -/
omit [TabSet] in
@[simp] def b_law_roll : MS := (sSeq s_law_roll_0 (sSeq s_law_roll_1 (sSeq s_law_roll_2 (sSeq s_law_roll_3 sNil))))
omit [TabSet] in
def m_law_roll : MC := mOfC 4 2 b_law_roll
omit [TabSet] in
theorem sc_law_roll : FnScope ["_law_cup_here", "_law_many", "_law_deep", "_law_found"] ["_law_cup_here", "_law_many"] (defScope (topS 39)) := ⟨rfl, rfl, rfl, by decide +kernel, rfl, by decide +kernel, by decide +kernel⟩
theorem d_law_roll (G : Env K mg) : DefOk P w K mg base "_law_roll" 1 (spC m_law_roll) :=
  have Sc := sc_law_roll
  def_cup (k := 0) G.f_law_roll Sc (by decide) fun cdv A outer s H E F fa hr =>
  (s_cons (s_if (t_cmp ck_gt (e_ixX (x_peek (i := 0)) p_int) e_int)
  (s_cons (s_set (i := 3) Sc.nd (e_mod (e_intOf (hm := G.n_int) (ha := (x_of (e_ixX (x_peek (i := 0)) p_int)))) (e_var (i := 1))))
  (s_cons (s_asgh (e_fdiv (e_ixX (x_peek (i := 0)) p_int) (e_var (i := 1))) (gh_sub (i := 0) p_int))
  (s_cons (s_ret (e_var (i := 3)))
  s_nil)))
  s_nil)
  (s_cons (s_asgh (e_mod (e_intOf (hm := G.n_int) (ha := (x_of (e_add (e_mulA (e_ixX (x_peek (i := 0)) p_int) e_int) e_int)))) e_int) (gh_sub (i := 0) p_int))
  (s_cons (s_set (i := 2) Sc.nd (e_mod (e_intOf (hm := G.n_int) (ha := (x_of (e_mulA (e_ixX (x_peek (i := 0)) p_int) (e_add (e_ixX (x_peek (i := 0)) p_int) e_int))))) e_int))
  (s_cons (s_ret (e_mod (e_intOf (hm := G.n_int) (ha := (x_of (e_fdiv (e_var (i := 2)) e_int)))) (e_var (i := 1))))
  s_nil))))
/-! _law_nexts -/
omit [TabSet] in
@[simp] def s_law_nexts_0 : MS := (sRet (f1 uTup (fList (lComp (iEnum (fVar 1)) (gT (gsCons (gN 2) (gsCons (gN 3) gsNil))) tTrue (fOp ixE (fOp ixE (fVar 0) (fVar 2)) (fVar 3)) [2, 3]))))
/-! _law_nexts -/
omit [TabSet] in
@[simp] def b_law_nexts : MS := (sSeq s_law_nexts_0 sNil)
omit [TabSet] in
def m_law_nexts : MF := mOf 4 2 b_law_nexts
omit [TabSet] in
theorem sc_law_nexts : FnScope ["_law_table_here", "_law_choice", "_law_at", "_law_way_here"] ["_law_table_here", "_law_choice"] (defScope (topS 41)) := ⟨rfl, rfl, rfl, by decide +kernel, rfl, by decide +kernel, by decide +kernel⟩
theorem d_law_nexts (G : Env K mg) : DefOk P w K mg base "_law_nexts" 1 (spF mg m_law_nexts) :=
  have Sc := sc_law_nexts
  def_pure (k := 0) G.f_law_nexts Sc (by decide) fun cdv A outer s H E F fa hr =>
  (s_cons (s_ret (e_tupOf (hm := G.n_tuple) (ha := (x_f (e_lc' (own := [("_law_at", 2), ("_law_way_here", 3)]) rfl Sc.nd (i_enum (hm := G.n_enumerate) (ha := (e_var (i := 1)))) (blkOk_by (by rfl)) (fun s H C cl fp => (g_tup rfl (gs_cons (g_name (i := 2) Sc.nd) (gs_cons (g_name (i := 3) Sc.nd) gs_nil)) rfl rfl (gsCons_len (gsCons_len gsNil_len)))) (fun s H C cl fp => ts_nil) (fun s H C cl fp => (e_ixE hr (e_ixE hr (e_var (i := 0)) (e_var (i := 2))) (e_var (i := 3)))))))))
  s_nil)
/-! _law_is_one -/
omit [TabSet] in
@[simp] def s_law_is_one_0 : MS := (sRet (fCmp cEq (f1 uCnt (fVar 0)) (f1 uLen (fVar 0))))
/-! _law_is_one -/
omit [TabSet] in
@[simp] def b_law_is_one : MS := (sSeq s_law_is_one_0 sNil)
omit [TabSet] in
def m_law_is_one : MF := mOf 1 1 b_law_is_one
omit [TabSet] in
theorem sc_law_is_one : FnScope ["_law_nexts_here"] ["_law_nexts_here"] (defScope (topS 42)) := ⟨rfl, rfl, rfl, by decide +kernel, rfl, by decide +kernel, by decide +kernel⟩
theorem d_law_is_one (G : Env K mg) : DefOk P w K mg base "_law_is_one" 1 (spF mg m_law_is_one) :=
  have Sc := sc_law_is_one
  def_pure (k := 0) G.f_law_is_one Sc (by decide) fun cdv A outer s H E F fa hr =>
  (s_cons (s_ret (e_cmp (ck_eq hr) (e_lenI rfl (hm := G.n_len) (hm2 := G.n_set) (ha := (x_of (e_var (i := 0))))) (e_len (hm := G.n_len) (ha := (x_of (e_var (i := 0)))))))
  s_nil)
/-! _law_way -/
omit [TabSet] in
@[simp] def s_law_way_2 : MS := (sRetO 2)
omit [TabSet] in
def l_law_way_1 : MS := (sSeq (sSet 4 (fCallC 0 m_law_roll (aCons (fVar 1) aNil)))
  (sSeq (sAsg (gT (gsCons (gSubO 2 (pVar 3)) (gsCons (gSubO 2 (pVar 4)) gsNil))) (fTup (aCons (fIxX (fPeek 2) (pVar 4)) (aCons (fIxX (fPeek 2) (pVar 3)) aNil))))
  sNil))
omit [TabSet] in
@[simp] def s_law_way_1 : MS := (sIf (fCmpT cGt (fCallC 0 m_law_roll (aCons (fC (.int 5)) aNil)) (fC (.int 0)))
  (sSeq (sFor (lRg (r1 (fVar 1))) (gN 3)
  l_law_way_1)
  sNil)
  sNil)
omit [TabSet] in
@[simp] def s_law_way_0 : MS := (sSetO 2 (lRg (r1 (fVar 1))))
/-! _law_way -/
omit [TabSet] in
@[simp] def b_law_way : MS := (sSeq s_law_way_0 (sSeq s_law_way_1 (sSeq s_law_way_2 sNil)))
omit [TabSet] in
def m_law_way : MC := mOfC 5 2 b_law_way
omit [TabSet] in
theorem sc_law_way : FnScope ["_law_cup_here", "_law_many", "_law_found", "_law_at", "_law_to"] ["_law_cup_here", "_law_many"] (defScope (topS 43)) := ⟨rfl, rfl, rfl, by decide +kernel, rfl, by decide +kernel, by decide +kernel⟩
theorem d_law_way (G : Env K mg) : DefOk P w K mg base "_law_way" 2 (spC m_law_way) :=
  have Sc := sc_law_way
  def_cup (k := 1) G.f_law_way Sc (by decide) fun cdv A outer s H E F fa hr =>
  (s_cons (s_setO (i := 2) Sc.nd (f_listRg (hc := rfl) (hm := G.n_list) (he := (rg_1 (hm := G.n_range) (ha := (e_var (i := 1)))))))
  (s_cons (s_if (t_cmp ck_gt (e_callC (i := 0) ((d_law_roll G).mono (by decide)) hr (a_cons e_int a_nil)) e_int)
  (s_cons (s_for (passes_of rfl) rfl (i_rg1 (hm := G.n_range) (ha := (e_var (i := 1)))) (g_name (i := 3) Sc.nd)
  (s_cons (s_set (i := 4) Sc.nd (e_callC (i := 0) ((d_law_roll G).mono (by decide)) hr (a_cons (e_var (i := 1)) a_nil)))
  (s_cons (s_asgh (e_tup (a_cons (e_ixX (x_peek (i := 2)) (p_var (i := 4))) (a_cons (e_ixX (x_peek (i := 2)) (p_var (i := 3))) a_nil))) (gh_tup rfl (ghs_cons (gh_sub (i := 2) (p_var (i := 3))) (ghs_cons (gh_sub (i := 2) (p_var (i := 4))) ghs_nil)) (gsCons_len (gsCons_len gsNil_len))))
  s_nil)))
  s_nil)
  s_nil)
  (s_cons (s_retO (i := 2))
  s_nil)))
/-! _law_table -/
omit [TabSet] in
@[simp] def s_law_table_2 : MS := (sGive 3 (sRet (f1 uTup (fList (lComp (lRg (r1 (fVar 1))) (gN 5) tTrue (f1 uTup (fList (lComp (iSeq (fVar 3)) (gN 6) tTrue (fOp ixE (fVar 6) (fVar 5)) [6]))) [5])))))
omit [TabSet] in
@[simp] def s_law_table_1 : MS := (sIf (fAndT (fCmpT cGt (fVar 2) (fC (.int 1))) (fCmpT cEq (fCallC 0 m_law_roll (aCons (fC (.int 6)) aNil)) (fC (.int 0))))
  (sSeq (sAsg (gSubO 3 (pNeg (pC (.int 1)))) (fIxX (fPeek 3) (pC (.int 0))))
  sNil)
  sNil)
omit [TabSet] in
@[simp] def s_law_table_0 : MS := (sSetO 3 (lComp (lRg (r1 (fVar 2))) (gN 4) tTrue (fCallC 0 m_law_way (aCons (fVar 1) aNil)) [4]))
/-! _law_table -/
omit [TabSet] in
@[simp] def b_law_table : MS := (sSeq s_law_table_0 (sSeq s_law_table_1 (sSeq s_law_table_2 sNil)))
omit [TabSet] in
def m_law_table : MC := mOfC 7 3 b_law_table
omit [TabSet] in
theorem sc_law_table : FnScope ["_law_cup_here", "_law_many", "_law_ways", "_law_some_here", "_law_turn", "_law_number", "_law_way_here"] ["_law_cup_here", "_law_many", "_law_ways"] (defScope (topS 44)) := ⟨rfl, rfl, rfl, by decide +kernel, rfl, by decide +kernel, by decide +kernel⟩
theorem d_law_table (G : Env K mg) : DefOk P w K mg base "_law_table" 3 (spC m_law_table) :=
  have Sc := sc_law_table
  def_cup (k := 2) G.f_law_table Sc (by decide) fun cdv A outer s H E F fa hr =>
  (s_cons (s_setO (i := 3) Sc.nd (e_lc' (own := [("_law_turn", 4)]) rfl Sc.nd (i_rg1 (hm := G.n_range) (ha := (e_var (i := 2)))) (blkOk_by (by rfl)) (fun s H C cl fp => (g_name (i := 4) Sc.nd)) (fun s H C cl fp => ts_nil) (fun s H C cl fp => (e_callC (i := 0) ((d_law_way G).mono (by decide)) hr (a_cons (e_var (i := 1)) a_nil)))))
  (s_cons (s_if (w_and (t_cmp ck_gt (e_var (i := 2)) e_int) (w_and1 (t_cmp (ck_eq hr) (e_callC (i := 0) ((d_law_roll G).mono (by decide)) hr (a_cons e_int a_nil)) e_int))).pt
  (s_cons (s_asgh (e_ixX (x_peek (i := 3)) p_int) (gh_sub (i := 3) (p_neg p_int)))
  s_nil)
  s_nil)
  (s_cons (s_give (i := 3) (s_ret (e_tupOf (hm := G.n_tuple) (ha := (x_f (e_lc' (own := [("_law_number", 5)]) rfl Sc.nd (i_rg1 (hm := G.n_range) (ha := (e_var (i := 1)))) (blkOk_by (by rfl)) (fun s H C cl fp => (g_name (i := 5) Sc.nd)) (fun s H C cl fp => ts_nil) (fun s H C cl fp => (e_tupOf (hm := G.n_tuple) (ha := (x_f (e_lc' (own := [("_law_way_here", 6)]) rfl Sc.nd (i_seq (e_var (i := 3))) (blkOk_by (by rfl)) (fun s H C cl fp => (g_name (i := 6) Sc.nd)) (fun s H C cl fp => ts_nil) (fun s H C cl fp => (e_ixE hr (e_var (i := 6)) (e_var (i := 5)))))))))))))))
  s_nil)))
/-! _law_all -/
omit [TabSet] in
@[simp] def s_law_all_2 : MS := (sRet (fVar 2))
omit [TabSet] in
def l_law_all_1 : MS := (sSeq (sSet 2 (fOp opSumL (fList (lComp (iSeq (fVar 2)) (gN 4) tTrue (fList (lComp (lRg (r1 (fVar 1))) (gN 5) tTrue (fOp opAdd (fVar 4) (fTup (aCons (fVar 5) aNil))) [5])) [4])) (fList (lLst aNil))))
  sNil)
omit [TabSet] in
@[simp] def s_law_all_1 : MS := (sFor (lRg (r1 (fVar 0))) (gN 3)
  l_law_all_1)
omit [TabSet] in
@[simp] def s_law_all_0 : MS := (sSet 2 (fList (lLst (aCons (fTup aNil) aNil))))
/-! _law_all -/
omit [TabSet] in
@[simp] def b_law_all : MS := (sSeq s_law_all_0 (sSeq s_law_all_1 (sSeq s_law_all_2 sNil)))
omit [TabSet] in
def m_law_all : MF := mOf 6 2 b_law_all
omit [TabSet] in
theorem sc_law_all : FnScope ["_law_many", "_law_ways", "_law_found", "_law_turn", "_law_row", "_law_way_here"] ["_law_many", "_law_ways"] (defScope (topS 46)) := ⟨rfl, rfl, rfl, by decide +kernel, rfl, by decide +kernel, by decide +kernel⟩
theorem d_law_all (G : Env K mg) : DefOk P w K mg base "_law_all" 1 (spF mg m_law_all) :=
  have Sc := sc_law_all
  def_pure (k := 0) G.f_law_all Sc (by decide) fun cdv A outer s H E F fa hr =>
  (s_cons (s_set (i := 2) Sc.nd (se_f (f_lst (a_cons (e_tup a_nil) a_nil))))
  (s_cons (s_for (passes_of rfl) rfl (i_rg1 (hm := G.n_range) (ha := (e_var (i := 0)))) (g_name (i := 3) Sc.nd)
  (s_cons (s_set (i := 2) Sc.nd (e_sumL rfl (hm := G.n_sum) (ha := (se_f (e_lc' (own := [("_law_row", 4)]) rfl Sc.nd (i_seq (e_var (i := 2))) (blkOk_by (by rfl)) (fun s H C cl fp => (g_name (i := 4) Sc.nd)) (fun s H C cl fp => ts_nil) (fun s H C cl fp => (se_f (e_lc' (own := [("_law_way_here", 5)]) rfl Sc.nd (i_rg1 (hm := G.n_range) (ha := (e_var (i := 1)))) (blkOk_by (by rfl)) (fun s H C cl fp => (g_name (i := 5) Sc.nd)) (fun s H C cl fp => ts_nil) (fun s H C cl fp => (e_add (e_var (i := 4)) (e_tup (a_cons (e_var (i := 5)) a_nil)))))))))) (hb := (se_f (f_lst a_nil)))))
  s_nil))
  (s_cons (s_ret (e_var (i := 2)))
  s_nil)))
/-! _law_ties -/
omit [TabSet] in
@[simp] def s_law_ties_2 : MS := (sRet (f1 uSort3 (fList (lComp (iSeq (fVar 1)) (gN 6) tTrue (f1 uTup (fVar 6)) [6]))))
omit [TabSet] in
def l_law_ties_2 : MS := (sSeq (sIf (fCmpT cEq (fOp ixE (fOp ixE (fVar 0) (fVar 2)) (fC (.int 0))) (fOp ixE (fOp ixE (fVar 0) (fVar 3)) (fC (.int 1))))
  (sSeq (sSet 5 (fList (lComp (iSeq (fVar 1)) (gN 6) (fOrT (fCmpT cInE (fVar 2) (fVar 6)) (fCmpT cInE (fVar 3) (fVar 6))) (fVar 6) [6])))
  (sSeq (sSet 1 (fOp opAdd (fList (lComp (iSeq (fVar 1)) (gN 6) (fCmpT cNotInE (fVar 6) (fVar 5)) (fVar 6) [6])) (fList (lLst (aCons (f1 uSort3 (fOp opSumL (fVar 5) (fList (lLst aNil)))) aNil)))))
  sNil))
  sNil)
  sNil)
omit [TabSet] in
def l_law_ties_1 : MS := (sSeq (sFor (lRg (r1 (f1 uLen (fVar 0)))) (gN 3)
  l_law_ties_2)
  sNil)
omit [TabSet] in
@[simp] def s_law_ties_1 : MS := (sFor (lRg (r1 (f1 uLen (fVar 0)))) (gN 2)
  l_law_ties_1)
omit [TabSet] in
@[simp] def s_law_ties_0 : MS := (sSet 1 (fList (lComp (lRg (r1 (f1 uLen (fVar 0)))) (gN 4) tTrue (fList (lLst (aCons (fVar 4) aNil))) [4])))
/-! _law_ties -/
omit [TabSet] in
@[simp] def b_law_ties : MS := (sSeq s_law_ties_0 (sSeq s_law_ties_1 (sSeq s_law_ties_2 sNil)))
omit [TabSet] in
def m_law_ties : MF := mOf 7 1 b_law_ties
omit [TabSet] in
theorem sc_law_ties : FnScope ["_law_table_here", "_law_lots", "_law_one", "_law_other", "_law_number", "_law_both", "_law_lot"] ["_law_table_here"] (defScope (topS 49)) := ⟨rfl, rfl, rfl, by decide +kernel, rfl, by decide +kernel, by decide +kernel⟩
theorem d_law_ties (G : Env K mg) : DefOk P w K mg base "_law_ties" 1 (spF mg m_law_ties) :=
  have Sc := sc_law_ties
  def_pure (k := 0) G.f_law_ties Sc (by decide) fun cdv A outer s H E F fa hr =>
  (s_cons (s_lc (i := 1) (own := [("_law_number", 4)]) rfl Sc.nd (i_rg1 (hm := G.n_range) (ha := (e_len (hm := G.n_len) (ha := (x_of (e_var (i := 0))))))) (blkOk_by (by rfl)) (fun s H C cl fp => (g_name (i := 4) Sc.nd)) (fun s H C cl fp => ts_nil) (fun s H C cl fp => (se_f (f_lst (a_cons (e_var (i := 4)) a_nil)))))
  (s_cons (s_for (passes_of rfl) rfl (i_rg1 (hm := G.n_range) (ha := (e_len (hm := G.n_len) (ha := (x_of (e_var (i := 0))))))) (g_name (i := 2) Sc.nd)
  (s_cons (s_for (passes_of rfl) rfl (i_rg1 (hm := G.n_range) (ha := (e_len (hm := G.n_len) (ha := (x_of (e_var (i := 0))))))) (g_name (i := 3) Sc.nd)
  (s_cons (s_if (t_cmp (ck_eq hr) (e_ixE hr (e_ixE hr (e_var (i := 0)) (e_var (i := 2))) e_int) (e_ixE hr (e_ixE hr (e_var (i := 0)) (e_var (i := 3))) e_int))
  (s_cons (s_set (i := 5) Sc.nd (se_f (e_lc' (own := [("_law_lot", 6)]) rfl Sc.nd (i_seq (e_var (i := 1))) (blkOk_by (by rfl)) (fun s H C cl fp => (g_name (i := 6) Sc.nd)) (fun s H C cl fp => (ts_one (w_or (t_cmp (ck_inE hr) (e_var (i := 2)) (e_var (i := 6))) (w_or1 (t_cmp (ck_inE hr) (e_var (i := 3)) (e_var (i := 6))))).pt)) (fun s H C cl fp => (e_var (i := 6))))))
  (s_cons (s_set (i := 1) Sc.nd (e_add (se_f (e_lc' (own := [("_law_lot", 6)]) rfl Sc.nd (i_seq (e_var (i := 1))) (blkOk_by (by rfl)) (fun s H C cl fp => (g_name (i := 6) Sc.nd)) (fun s H C cl fp => (ts_one (t_cmp (ck_notinE hr) (e_var (i := 6)) (e_var (i := 5))))) (fun s H C cl fp => (e_var (i := 6))))) (se_f (f_lst (a_cons (e_sort3 (hr := hr) (hc := rfl) (hm := G.n_sorted) (ha := (x_of (e_sumL rfl (hm := G.n_sum) (ha := (e_var (i := 5))) (hb := (se_f (f_lst a_nil))))))) a_nil)))))
  s_nil))
  s_nil)
  s_nil))
  s_nil))
  (s_cons (s_ret (e_sort3 (hr := hr) (hc := rfl) (hm := G.n_sorted) (ha := (x_f (e_lc' (own := [("_law_lot", 6)]) rfl Sc.nd (i_seq (e_var (i := 1))) (blkOk_by (by rfl)) (fun s H C cl fp => (g_name (i := 6) Sc.nd)) (fun s H C cl fp => ts_nil) (fun s H C cl fp => (e_tupOf (hm := G.n_tuple) (ha := (x_of (e_var (i := 6)))))))))))
  s_nil)))
/-! _law_right -/
omit [TabSet] in
@[simp] def s_law_right_4 : MS := (sRet (fCmp cEq (fCall m_count_two (aCons (fVar 0) (aCons (fTup aNil) aNil))) (fVar 1)))
omit [TabSet] in
def t_law_right_4 : MS := (sSeq s_law_right_4 sNil)
omit [TabSet] in
def l_law_right_1t3 : MS := (sSeq (sSet 1 (fOp opAdd (fVar 1) (fIf (fTruth (fVar 5)) (fC (.int 1)) (fC (.int 0)))))
  sNil)
omit [TabSet] in
def l_law_right_1t2 : MS := (sSeq (sIf (fOrT (fCmpT cNe (fCmp cIs (fVar 6) (fC .none)) (fVar 5)) (fCmpT cNe (fCall m_law_is_one (aCons (fCall m_law_nexts (aCons (fVar 0) (aCons (fVar 2) aNil))) aNil)) (fVar 5)))
  (sSeq (sRet (fC (.bool false)))
  sNil)
  sNil)
  l_law_right_1t3)
omit [TabSet] in
def l_law_right_1t1 : MS := (sSeq (sSet 6 (fCall m_two_that_meet (aCons (fVar 0) (aCons (fVar 2) aNil))))
  l_law_right_1t2)
omit [TabSet] in
def l_law_right_1 : MS := (sSeq (sSet 5 (fCmp cEq (fList (lComp (iSeq (fVar 3)) (gN 7) (fCmpT cGt (f1 uCnt (fList (lComp (iSeq (fVar 7)) (gN 8) tTrue (fOp ixE (fVar 2) (fVar 8)) [8]))) (fC (.int 1))) (fVar 7) [7])) (fList (lLst aNil))))
  l_law_right_1t1)
omit [TabSet] in
@[simp] def s_law_right_3 : MS := (sFor (iSeq (fVar 4)) (gN 2)
  l_law_right_1)
omit [TabSet] in
def t_law_right_3 : MS := (sSeq s_law_right_3 t_law_right_4)
omit [TabSet] in
@[simp] def s_law_right_2 : MS := (sSet 1 (fC (.int 0)))
omit [TabSet] in
def t_law_right_2 : MS := (sSeq s_law_right_2 t_law_right_3)
omit [TabSet] in
@[simp] def s_law_right_1 : MS := (sIf (fOrT (fCmpT cIsN (fCall m_is_table (aCons (fVar 0) aNil)) (fC (.bool true))) (fCmpT cNe (fCall m_ties_of (aCons (fVar 0) aNil)) (fVar 3)))
  (sSeq (sRet (fC (.bool false)))
  sNil)
  sNil)
omit [TabSet] in
def t_law_right_1 : MS := (sSeq s_law_right_1 t_law_right_2)
omit [TabSet] in
@[simp] def s_law_right_0 : MS := (sPar 3 4 (aCons (fCall m_law_ties (aCons (fVar 0) aNil)) (aCons (fCall m_law_all (aCons (f1 uLen (fVar 0)) (aCons (fC (.int 2)) aNil))) aNil)))
/-! _law_right -/
omit [TabSet] in
@[simp] def b_law_right : MS := (sSeq s_law_right_0 t_law_right_1)
omit [TabSet] in
def m_law_right : MF := mOf 9 1 b_law_right
omit [TabSet] in
theorem sc_law_right : FnScope ["_law_table_here", "_law_many", "_law_choice", "_law_ties_here", "_law_some_here", "_law_is_so", "_law_met", "_law_tie", "_law_number"] ["_law_table_here"] (defScope (topS 50)) := ⟨rfl, rfl, rfl, by decide +kernel, rfl, by decide +kernel, by decide +kernel⟩
theorem d_law_right (G : Env K mg) : DefOk P w K mg base "_law_right" 8 (spF mg m_law_right) :=
  have Sc := sc_law_right
  def_pure (k := 7) G.f_law_right Sc (by decide) fun cdv A outer s H E F fa hr =>
  (s_cons (s_par (i := 3) (j := 4) rfl Sc.nd (a_cons (e_call ((d_law_ties G).mono (by decide)) hr (a_cons (e_var (i := 0)) a_nil)) (a_cons (e_call ((d_law_all G).mono (by decide)) hr (a_cons (e_len (hm := G.n_len) (ha := (x_of (e_var (i := 0))))) (a_cons e_int a_nil))) a_nil)) rfl)
  (s_cons (s_if (w_or (t_cmp ck_isn (e_call ((d_is_table G).mono (by decide)) hr (a_cons (e_var (i := 0)) a_nil)) e_bl) (w_or1 (t_cmp (ck_ne hr) (e_call ((d_ties_of G).mono (by decide)) hr (a_cons (e_var (i := 0)) a_nil)) (e_var (i := 3))))).pt
  (s_cons (s_ret e_bl)
  s_nil)
  s_nil)
  (s_cons (s_set (i := 1) Sc.nd e_int)
  (s_cons (s_for (passes_of rfl) rfl (i_seq (e_var (i := 4))) (g_name (i := 2) Sc.nd)
  (s_cons (s_set (i := 5) Sc.nd (e_cmp (ck_eq hr) (se_f (e_lc' (own := [("_law_tie", 7)]) rfl Sc.nd (i_seq (e_var (i := 3))) (blkOk_by (by rfl)) (fun s H C cl fp => (g_name (i := 7) Sc.nd)) (fun s H C cl fp => (ts_one (t_cmp ck_gt (e_lenI rfl (hm := G.n_len) (hm2 := G.n_set) (ha := (x_f (e_lc' (own := [("_law_number", 8)]) rfl Sc.nd (i_seq (e_var (i := 7))) (blkOk_by (by rfl)) (fun s H C cl fp => (g_name (i := 8) Sc.nd)) (fun s H C cl fp => ts_nil) (fun s H C cl fp => (e_ixE hr (e_var (i := 2)) (e_var (i := 8)))))))) e_int))) (fun s H C cl fp => (e_var (i := 7))))) (se_f (f_lst a_nil))))
  (s_cons (s_set (i := 6) Sc.nd (e_call ((d_two_that_meet G).mono (by decide)) hr (a_cons (e_var (i := 0)) (a_cons (e_var (i := 2)) a_nil))))
  (s_cons (s_if (w_or (t_cmp (ck_ne hr) (e_cmp ck_is (e_var (i := 6)) e_non) (e_var (i := 5))) (w_or1 (t_cmp (ck_ne hr) (e_call ((d_law_is_one G).mono (by decide)) hr (a_cons (e_call ((d_law_nexts G).mono (by decide)) hr (a_cons (e_var (i := 0)) (a_cons (e_var (i := 2)) a_nil))) a_nil)) (e_var (i := 5))))).pt
  (s_cons (s_ret e_bl)
  s_nil)
  s_nil)
  (s_cons (s_set (i := 1) Sc.nd (e_add (e_var (i := 1)) (e_if (t_truth (e_var (i := 5))) e_int e_int)))
  s_nil)))))
  (s_cons (s_ret (e_cmp (ck_eq hr) (e_call ((d_count_two G).mono (by decide)) hr (a_cons (e_var (i := 0)) (a_cons (e_tup a_nil) a_nil))) (e_var (i := 1))))
  s_nil)))))
/-! law -/
omit [TabSet] in
@[simp] def s_law_6 : MS := (sRet (fAndV (fCall m_law_right (aCons (fVar 4) aNil)) (fAndV (fCall m_law_right (aCons (fTup (aCons (fTup (aCons (fC (.int 0)) (aCons (fC (.int 0)) aNil))) aNil)) aNil)) (fAndV (fCall m_law_right (aCons (fTup (aCons (fTup (aCons (fC (.int 1)) (aCons (fC (.int 1)) aNil))) (aCons (fTup (aCons (fC (.int 2)) (aCons (fC (.int 2)) aNil))) (aCons (fTup (aCons (fC (.int 0)) (aCons (fC (.int 0)) aNil))) aNil)))) aNil)) (fCall m_law_right (aCons (fTup (aCons (fTup (aCons (fC (.int 1)) (aCons (fC (.int 2)) aNil))) (aCons (fTup (aCons (fC (.int 2)) (aCons (fC (.int 0)) aNil))) (aCons (fTup (aCons (fC (.int 0)) (aCons (fC (.int 1)) aNil))) aNil)))) aNil))))))
omit [TabSet] in
def t_law_6 : MS := (sSeq s_law_6 sNil)
omit [TabSet] in
@[simp] def s_law_5 : MS := (sIf (fOrT (fCmpT cNe (fCall m_ties_of (aCons (fVar 4) aNil)) (fList (lLst (aCons (fTup (aCons (fC (.int 0)) (aCons (fC (.int 3)) (aCons (fC (.int 4)) aNil)))) (aCons (fTup (aCons (fC (.int 1)) (aCons (fC (.int 2)) (aCons (fC (.int 5)) aNil)))) aNil))))) (fOrT (fCmpT cNe (fCall m_ties_of (aCons (fTup (aCons (fTup (aCons (fC (.int 0)) (aCons (fC (.int 0)) aNil))) (aCons (fTup (aCons (fC (.int 1)) (aCons (fC (.int 1)) aNil))) aNil))) aNil)) (fList (lLst (aCons (fTup (aCons (fC (.int 0)) aNil)) (aCons (fTup (aCons (fC (.int 1)) aNil)) aNil))))) (fCmpT cNe (fCall m_ties_of (aCons (fTup (aCons (fTup (aCons (fC (.int 0)) (aCons (fC (.int 1)) aNil))) (aCons (fTup (aCons (fC (.int 1)) (aCons (fC (.int 0)) aNil))) aNil))) aNil)) (fList (lLst (aCons (fTup (aCons (fC (.int 0)) (aCons (fC (.int 1)) aNil))) aNil))))))
  (sSeq (sRet (fC (.bool false)))
  sNil)
  sNil)
omit [TabSet] in
def t_law_5 : MS := (sSeq s_law_5 t_law_6)
omit [TabSet] in
@[simp] def s_law_4 : MS := (sSet 4 (fTup (aCons (fTup (aCons (fC (.int 2)) (aCons (fC (.int 1)) aNil))) (aCons (fTup (aCons (fC (.int 4)) (aCons (fC (.int 0)) aNil))) (aCons (fTup (aCons (fC (.int 0)) (aCons (fC (.int 3)) aNil))) (aCons (fTup (aCons (fC (.int 5)) (aCons (fC (.int 2)) aNil))) (aCons (fTup (aCons (fC (.int 1)) (aCons (fC (.int 5)) aNil))) (aCons (fTup (aCons (fC (.int 3)) (aCons (fC (.int 4)) aNil))) aNil))))))))
omit [TabSet] in
def t_law_4 : MS := (sSeq s_law_4 t_law_5)
omit [TabSet] in
@[simp] def s_law_3 : MS := (sIf (fCmpT cNe (fCall m_ties_of (aCons (fVar 3) aNil)) (fCall m_law_ties (aCons (fVar 3) aNil)))
  (sSeq (sRet (fC (.bool false)))
  sNil)
  sNil)
omit [TabSet] in
def t_law_3 : MS := (sSeq s_law_3 t_law_4)
omit [TabSet] in
@[simp] def s_law_2 : MS := (sSet 3 (fCallC 1 m_law_table (aCons (fOp opAdd (fC (.int 7)) (fCallC 1 m_law_roll (aCons (fC (.int 14)) aNil))) (aCons (fC (.int 2)) aNil))))
omit [TabSet] in
def t_law_2 : MS := (sSeq s_law_2 t_law_3)
omit [TabSet] in
def l_law_1 : MS := (sSeq (sIf (fNotT (fB (fCall m_law_right (aCons (fCallC 1 m_law_table (aCons (fOp opAdd (fC (.int 1)) (fCallC 1 m_law_roll (aCons (fC (.int 6)) aNil))) (aCons (fC (.int 2)) aNil))) aNil))))
  (sSeq (sRet (fC (.bool false)))
  sNil)
  sNil)
  sNil)
omit [TabSet] in
@[simp] def s_law_1 : MS := (sFor (lRg (r1 (fC (.int 3)))) (gN 2)
  l_law_1)
omit [TabSet] in
def t_law_1 : MS := (sSeq s_law_1 t_law_2)
omit [TabSet] in
@[simp] def s_law_0 : MS := (sSetO 1 (lCallO 0 m_law_cup))
/-! the law -/
omit [TabSet] in
@[simp] def b_law : MS := (sSeq s_law_0 t_law_1)
omit [TabSet] in
def m_law : List Int → Option D := mOfL 5 b_law
omit [TabSet] in
theorem sc_law : FnScope ["_law_script", "_law_cup_here", "_law_turn", "_law_table_here", "_law_rung"] ["_law_script"] (defScope (topS 51)) := ⟨rfl, rfl, rfl, by decide +kernel, rfl, by decide +kernel, by decide +kernel⟩
theorem d_law (G : Env K mg) {f c Pt : Addr} {oc : Value} {od an : Option Addr} {osl : Array (Option Value)} {kV doc pm ct : Value} (lk : K.lookup f = some ⟨oc, od, .func (PySem.W.fnOf "law" "law" (defArgs (topS 51)) (defBody (topS 51)) (defScope (topS 51)) .none kV doc pm an (.ref c) ct), osl⟩) (hcd : PySem.W.codeIn K (.ref c) "law" = true)  :
    FnOk P w K mg base (L2.CX P w) 9 f (PySem.W.fnOf "law" "law" (defArgs (topS 51)) (defBody (topS 51)) (defScope (topS 51)) .none kV doc pm an (.ref c) ct) ["_law_script"] (spL K m_law) :=
  have Sc := sc_law
  law_fn (k := 8) lk hcd Sc rfl (by decide) fun A outer s H E F t0 hr =>
  (s_cons (s_setO (i := 1) Sc.nd (f_callO (i := 0) ((d_law_cup G).mono (by decide)) hr))
  (s_cons (s_for (passes_of rfl) rfl (i_rg1 (hm := G.n_range) (ha := e_int)) (g_name (i := 2) Sc.nd)
  (s_cons (s_if (t_not (t_val (e_call ((d_law_right G).mono (by decide)) hr (a_cons (e_callC (i := 1) ((d_law_table G).mono (by decide)) hr (a_cons (e_add e_int (e_callC (i := 1) ((d_law_roll G).mono (by decide)) hr (a_cons e_int a_nil))) (a_cons e_int a_nil))) a_nil))))
  (s_cons (s_ret e_bl)
  s_nil)
  s_nil)
  s_nil))
  (s_cons (s_set (i := 3) Sc.nd (e_callC (i := 1) ((d_law_table G).mono (by decide)) hr (a_cons (e_add e_int (e_callC (i := 1) ((d_law_roll G).mono (by decide)) hr (a_cons e_int a_nil))) (a_cons e_int a_nil))))
  (s_cons (s_if (t_cmp (ck_ne hr) (e_call ((d_ties_of G).mono (by decide)) hr (a_cons (e_var (i := 3)) a_nil)) (e_call ((d_law_ties G).mono (by decide)) hr (a_cons (e_var (i := 3)) a_nil)))
  (s_cons (s_ret e_bl)
  s_nil)
  s_nil)
  (s_cons (s_set (i := 4) Sc.nd (e_tup (a_cons (e_tup (a_cons e_int (a_cons e_int a_nil))) (a_cons (e_tup (a_cons e_int (a_cons e_int a_nil))) (a_cons (e_tup (a_cons e_int (a_cons e_int a_nil))) (a_cons (e_tup (a_cons e_int (a_cons e_int a_nil))) (a_cons (e_tup (a_cons e_int (a_cons e_int a_nil))) (a_cons (e_tup (a_cons e_int (a_cons e_int a_nil))) a_nil))))))))
  (s_cons (s_if (w_or (t_cmp (ck_ne hr) (e_call ((d_ties_of G).mono (by decide)) hr (a_cons (e_var (i := 4)) a_nil)) (se_f (f_lst (a_cons (e_tup (a_cons e_int (a_cons e_int (a_cons e_int a_nil)))) (a_cons (e_tup (a_cons e_int (a_cons e_int (a_cons e_int a_nil)))) a_nil))))) (w_or (t_cmp (ck_ne hr) (e_call ((d_ties_of G).mono (by decide)) hr (a_cons (e_tup (a_cons (e_tup (a_cons e_int (a_cons e_int a_nil))) (a_cons (e_tup (a_cons e_int (a_cons e_int a_nil))) a_nil))) a_nil)) (se_f (f_lst (a_cons (e_tup (a_cons e_int a_nil)) (a_cons (e_tup (a_cons e_int a_nil)) a_nil))))) (w_or1 (t_cmp (ck_ne hr) (e_call ((d_ties_of G).mono (by decide)) hr (a_cons (e_tup (a_cons (e_tup (a_cons e_int (a_cons e_int a_nil))) (a_cons (e_tup (a_cons e_int (a_cons e_int a_nil))) a_nil))) a_nil)) (se_f (f_lst (a_cons (e_tup (a_cons e_int (a_cons e_int a_nil))) a_nil))))))).pt
  (s_cons (s_ret e_bl)
  s_nil)
  s_nil)
  (s_cons (s_ret (e_and (e_call ((d_law_right G).mono (by decide)) hr (a_cons (e_var (i := 4)) a_nil)) (e_and (e_call ((d_law_right G).mono (by decide)) hr (a_cons (e_tup (a_cons (e_tup (a_cons e_int (a_cons e_int a_nil))) a_nil)) a_nil)) (e_and (e_call ((d_law_right G).mono (by decide)) hr (a_cons (e_tup (a_cons (e_tup (a_cons e_int (a_cons e_int a_nil))) (a_cons (e_tup (a_cons e_int (a_cons e_int a_nil))) (a_cons (e_tup (a_cons e_int (a_cons e_int a_nil))) a_nil)))) a_nil)) (e_one (e_call ((d_law_right G).mono (by decide)) hr (a_cons (e_tup (a_cons (e_tup (a_cons e_int (a_cons e_int a_nil))) (a_cons (e_tup (a_cons e_int (a_cons e_int a_nil))) (a_cons (e_tup (a_cons e_int (a_cons e_int a_nil))) a_nil)))) a_nil)))))))
  s_nil)))))))
end K20

/-! cycles of a permutation of the numbers below n. -/
namespace Cy
structure PM (P : Nat → Nat) (n : Nat) : Prop where
  lt : ∀ i, i < n → P i < n
  inj : ∀ i j, i < n → j < n → P i = P j → i = j
def it (P : Nat → Nat) : Nat → Nat → Nat
  | 0, a => a
  | k + 1, a => P (it P k a)
variable {P P' : Nat → Nat} {n : Nat}
theorem it_add (k m a : Nat) : it P (k + m) a = it P k (it P m a) := by
  induction k with
  | zero => simp [it]
  | succ k ih => rw [Nat.succ_add]; simp [it, ih]
theorem it_lt (h : PM P n) {a : Nat} (ha : a < n) : ∀ k, it P k a < n
  | 0 => ha
  | k + 1 => h.lt _ (it_lt h ha k)
theorem it_inj (h : PM P n) {a b : Nat} (ha : a < n) (hb : b < n) : ∀ k, it P k a = it P k b → a = b
  | 0, e => e
  | k + 1, e => it_inj h ha hb k (h.inj _ _ (it_lt h ha k) (it_lt h hb k) e)
theorem nodup_lt : ∀ (n : Nat) (l : List Nat), l.Nodup → (∀ x ∈ l, x < n) → l.length ≤ n
  | 0, l, _, h => by
    cases l with
    | nil => simp
    | cons a l => exact absurd (h a (by simp)) (by omega)
  | n + 1, l, hn, h => by
    by_cases hm : n ∈ l
    · have := nodup_lt n (l.erase n) (hn.erase n) fun x hx => by
        have e := (hn.mem_erase_iff).mp hx
        have := h x e.2
        omega
      rw [List.length_erase_of_mem hm] at this
      omega
    · have := nodup_lt n l hn fun x hx => by
        have h1 := h x hx
        have : x ≠ n := fun e => hm (e ▸ hx)
        omega
      omega
theorem returns (h : PM P n) {a : Nat} (ha : a < n) : ∃ k, 1 ≤ k ∧ k ≤ n ∧ it P k a = a := by
  apply Classical.byContradiction
  intro hc
  have hd : ((List.range (n + 1)).map fun k => it P k a).Nodup := by
    rw [List.Nodup, List.pairwise_map]
    refine List.Pairwise.imp_of_mem (R := (· < ·)) (fun {i j} hi hj hlt e => ?_) List.pairwise_lt_range
    rw [List.mem_range] at hi hj
    have e2 : j = i + (j - i) := by omega
    rw [e2, it_add] at e
    have := it_inj h ha (it_lt h ha _) i e
    exact hc ⟨j - i, by omega, by omega, this.symm⟩
  have := nodup_lt n _ hd fun x hx => by
    obtain ⟨k, _, rfl⟩ := List.mem_map.mp hx
    exact it_lt h ha k
  simp at this
  omega
theorem least {Q : Nat → Prop} [DecidablePred Q] : ∀ k, Q k → ∃ m, m ≤ k ∧ Q m ∧ ∀ j, j < m → ¬ Q j
  | k, h => by
    induction k using Nat.strongRecOn with
    | ind k ih =>
      by_cases hx : ∃ j, j < k ∧ Q j
      · obtain ⟨j, h1, h2⟩ := hx
        obtain ⟨m, m1, m2, m3⟩ := ih j h1 h2
        exact ⟨m, by omega, m2, m3⟩
      · exact ⟨k, Nat.le_refl _, h, fun j hj q => hx ⟨j, hj, q⟩⟩
def orbG (P : Nat → Nat) : Nat → Nat → Nat → List Nat
  | 0, _, _ => []
  | f + 1, a, x => if x = a then [] else x :: orbG P f a (P x)
def orb (P : Nat → Nat) (n a : Nat) : List Nat := a :: orbG P n a (P a)
theorem it_succ (k a : Nat) : it P k (P a) = it P (k + 1) a := by
  rw [it_add]; rfl
theorem orbG_eq {a : Nat} : ∀ (k f x : Nat), k < f → it P k x = a → (∀ j, j < k → it P j x ≠ a) → orbG P f a x = (List.range k).map fun j => it P j x
  | 0, f + 1, x, _, h, _ => by
    have : x = a := h
    simp [orbG, this]
  | k + 1, f + 1, x, hf, h, hn => by
    have h0 : x ≠ a := hn 0 (by omega)
    unfold orbG
    rw [if_neg h0, orbG_eq k f (P x) (by omega) (by rw [it_succ]; exact h) (fun j hj => by rw [it_succ]; exact hn _ (by omega)), List.range_succ_eq_map]
    simp [it, it_succ]
theorem orb_spec (h : PM P n) {a : Nat} (ha : a < n) : ∃ k, 1 ≤ k ∧ k ≤ n ∧ it P k a = a ∧ (∀ j, 1 ≤ j → j < k → it P j a ≠ a) ∧ orb P n a = (List.range k).map fun j => it P j a := by
  obtain ⟨k0, k1, k2, k3⟩ := returns h ha
  obtain ⟨m, m1, m2, m3⟩ := least (Q := fun m => it P (m + 1) a = a) (k0 - 1) (by show it P (k0 - 1 + 1) a = a; rw [show k0 - 1 + 1 = k0 by omega]; exact k3)
  refine ⟨m + 1, by omega, by omega, m2, fun j j1 j2 => ?_, ?_⟩
  · have := m3 (j - 1) (by omega)
    rwa [show j - 1 + 1 = j by omega] at this
  · unfold orb
    rw [orbG_eq m n (P a) (by omega) (by rw [it_succ]; exact m2) (fun j hj => by rw [it_succ]; exact m3 j hj), List.range_succ_eq_map]
    simp [it, it_succ]
theorem it_mul {a k : Nat} (h : it P k a = a) : ∀ m, it P (k * m) a = a
  | 0 => rfl
  | m + 1 => by rw [Nat.mul_succ, it_add, h, it_mul h m]
theorem it_mod {a k : Nat} (h : it P k a = a) (j : Nat) : it P (j % k) a = it P j a := by
  conv => rhs; rw [← Nat.mod_add_div j k, it_add, it_mul h]
theorem mem_orb (h : PM P n) {a x : Nat} (ha : a < n) : x ∈ orb P n a ↔ ∃ j, it P j a = x := by
  obtain ⟨k, k1, _, k3, _, e⟩ := orb_spec h ha
  rw [e, List.mem_map]
  refine ⟨fun ⟨j, _, q⟩ => ⟨j, q⟩, fun ⟨j, q⟩ => ⟨j % k, List.mem_range.mpr (Nat.mod_lt _ (by omega)), by rw [it_mod k3, q]⟩⟩
theorem self_orb (a : Nat) : a ∈ orb P n a := by simp [orb]
theorem orb_lt (h : PM P n) {a x : Nat} (ha : a < n) (hx : x ∈ orb P n a) : x < n := by
  obtain ⟨j, rfl⟩ := (mem_orb h ha).mp hx
  exact it_lt h ha j
theorem orb_sym (h : PM P n) {a x : Nat} (ha : a < n) (hx : x ∈ orb P n a) : a ∈ orb P n x := by
  obtain ⟨k, k1, _, k3, _, e⟩ := orb_spec h ha
  have hx' := hx
  rw [e, List.mem_map] at hx'
  obtain ⟨j, hj, rfl⟩ := hx'
  rw [List.mem_range] at hj
  refine (mem_orb h (it_lt h ha j)).mpr ⟨k - j, ?_⟩
  rw [← it_add, show k - j + j = k by omega, k3]
theorem orb_trans (h : PM P n) {a b x : Nat} (ha : a < n) (hb : b ∈ orb P n a) (hx : x ∈ orb P n b) : x ∈ orb P n a := by
  obtain ⟨i, rfl⟩ := (mem_orb h ha).mp hb
  obtain ⟨j, rfl⟩ := (mem_orb h (it_lt h ha i)).mp hx
  exact (mem_orb h ha).mpr ⟨j + i, it_add j i a⟩
theorem orb_apart (h : PM P n) {a s x : Nat} (ha : a < n) (hs : s < n) (hn : s ∉ orb P n a) (hx : x ∈ orb P n s) : x ∉ orb P n a := fun hx2 =>
  hn (orb_trans h ha hx2 (orb_sym h hs hx))
theorem orb_next (h : PM P n) {a x : Nat} (ha : a < n) (hx : x ∈ orb P n a) : P x ∈ orb P n a := by
  obtain ⟨j, rfl⟩ := (mem_orb h ha).mp hx
  exact (mem_orb h ha).mpr ⟨j + 1, rfl⟩
theorem orb_nodup (h : PM P n) {a : Nat} (ha : a < n) : (orb P n a).Nodup := by
  obtain ⟨k, k1, _, k3, k4, e⟩ := orb_spec h ha
  rw [e, List.Nodup, List.pairwise_map]
  refine List.Pairwise.imp_of_mem (R := (· < ·)) (fun {i j} hi hj hlt q => ?_) List.pairwise_lt_range
  rw [List.mem_range] at hi hj
  have e2 : j = i + (j - i) := by omega
  rw [e2, it_add] at q
  exact k4 (j - i) (by omega) (by omega) (it_inj h ha (it_lt h ha _) i q).symm
theorem orb_len (h : PM P n) {a : Nat} (ha : a < n) : 1 ≤ (orb P n a).length ∧ (orb P n a).length ≤ n := by
  obtain ⟨k, k1, k2, _, _, e⟩ := orb_spec h ha
  rw [e]; simp; omega
theorem orb_fix (hn : 1 ≤ n) {s : Nat} (hs : P s = s) : orb P n s = [s] := by
  obtain ⟨m, rfl⟩ : ∃ m, n = m + 1 := ⟨n - 1, by omega⟩
  simp [orb, orbG, hs]
theorem it_congr {a : Nat} (hc : ∀ j, P' (it P j a) = P (it P j a)) : ∀ j, it P' j a = it P j a
  | 0 => rfl
  | j + 1 => by simp only [it]; rw [it_congr hc j, hc]
theorem orbG_congr {a : Nat} : ∀ (f x : Nat), (∀ j, P' (it P j x) = P (it P j x)) → orbG P' f a x = orbG P f a x
  | 0, _, _ => rfl
  | f + 1, x, hc => by
    unfold orbG
    have h0 : P' x = P x := hc 0
    rw [h0, orbG_congr f (P x) fun j => by rw [it_succ]; exact hc (j + 1)]
theorem orb_congr (h : PM P n) {a : Nat} (ha : a < n) (hc : ∀ x ∈ orb P n a, P' x = P x) : orb P' n a = orb P n a := by
  have hj : ∀ j, P' (it P j a) = P (it P j a) := fun j => hc _ ((mem_orb h ha).mpr ⟨j, rfl⟩)
  unfold orb
  have h0 : P' a = P a := hj 0
  rw [h0, orbG_congr n (P a) fun j => by rw [it_succ]; exact hj (j + 1)]
/-! ### rings -/
def lr (P : Nat → Nat) (n : Nat) : Nat → List Nat → List (List Nat)
  | 0, _ => []
  | _ + 1, [] => []
  | f + 1, s :: r => orb P n s :: lr P n f (r.filter fun x => !(orb P n s).contains x)
def cs (P : Nat → Nat) (n : Nat) : List Nat → List Nat → List (List Nat)
  | [], _ => []
  | s :: r, seen => if seen.contains s then cs P n r seen else orb P n s :: cs P n r (seen ++ orb P n s)
theorem flen (q : Nat → Bool) (l : List Nat) : (l.filter q).length ≤ l.length := List.length_filter_le q l
theorem lr_fuel : ∀ (f : Nat) (l : List Nat), l.length ≤ f → lr P n (f + 1) l = lr P n f l
  | 0, [], _ => rfl
  | 0, _ :: _, h => by simp at h
  | f + 1, [], _ => rfl
  | f + 1, s :: r, h => by
    conv => lhs; unfold lr
    conv => rhs; unfold lr
    rw [lr_fuel f _ (by have := flen (fun x => !(orb P n s).contains x) r; simp at h; omega)]
theorem lr_fuels {l : List Nat} {f : Nat} (h : l.length ≤ f) : ∀ m, lr P n (f + m) l = lr P n f l
  | 0 => rfl
  | m + 1 => by rw [← Nat.add_assoc, lr_fuel (f + m) l (by omega), lr_fuels h m]
theorem cs_lr (hn : 1 ≤ n) {dif : Nat → Bool} (hd : ∀ s, s < n → dif s = false → P s = s) : ∀ (st seen : List Nat) (f : Nat), (∀ s ∈ st, s < n) → st.length ≤ f →
    (cs P n st seen).filter (fun r => dif (r.headD 0)) = lr P n f (st.filter fun s => dif s && !seen.contains s)
  | [], _, 0, _, _ => rfl
  | [], _, _ + 1, _, _ => rfl
  | _ :: _, _, 0, _, h => by simp at h
  | s :: r, seen, f + 1, hs, hl => by
    have hl' : r.length ≤ f := by simpa using hl
    have ih := fun sn => cs_lr hn hd r sn f (fun x hx => hs x (List.mem_cons_of_mem _ hx)) hl'
    unfold cs
    by_cases h1 : seen.contains s = true
    · rw [if_pos h1, ih, List.filter_cons_of_neg (by rw [h1]; simp)]
      exact (lr_fuel f _ (Nat.le_trans (flen _ _) hl')).symm
    · rw [if_neg h1]
      have h1' : seen.contains s = false := by simpa using h1
      by_cases h2 : dif s = true
      · rw [List.filter_cons_of_pos (by simp [orb, h2]), ih, List.filter_cons_of_pos (by rw [h1', h2]; rfl)]
        conv => rhs; unfold lr
        congr 2
        rw [List.filter_filter]
        apply List.filter_congr
        intro x hx
        rw [List.contains_append]
        cases dif x <;> cases seen.contains x <;> cases (orb P n s).contains x <;> rfl
      · have h2' : dif s = false := by simpa using h2
        have e := orb_fix (P := P) hn (hd s (hs s (by simp)) h2')
        rw [List.filter_cons_of_neg (by simp [orb, h2']), ih, List.filter_cons_of_neg (by rw [h2']; simp), e]
        rw [lr_fuel f _ (Nat.le_trans (flen _ _) hl')]
        congr 1
        apply List.filter_congr
        intro x hx
        rw [List.contains_append]
        by_cases hx2 : x = s
        · subst hx2; simp [h2']
        · simp [hx2]
theorem lr_mem : ∀ (f : Nat) (l : List Nat) (r : List Nat), r ∈ lr P n f l → ∃ s ∈ l, r = orb P n s
  | 0, _, _, h => by simp [lr] at h
  | _ + 1, [], _, h => by simp [lr] at h
  | f + 1, s :: t, r, h => by
    unfold lr at h
    rcases List.mem_cons.mp h with rfl | h
    · exact ⟨s, by simp, rfl⟩
    · obtain ⟨x, hx, rfl⟩ := lr_mem f _ r h
      exact ⟨x, List.mem_cons_of_mem _ (List.mem_filter.mp hx).1, rfl⟩
theorem lr_cover : ∀ (f : Nat) (l : List Nat), l.length ≤ f → ∀ x ∈ l, ∃ r ∈ lr P n f l, x ∈ r
  | 0, [], _, x, h => by simp at h
  | 0, _ :: _, hl, _, _ => by simp at hl
  | f + 1, [], _, x, h => by simp at h
  | f + 1, s :: t, hl, x, h => by
    unfold lr
    by_cases hx : x ∈ orb P n s
    · exact ⟨_, by simp, hx⟩
    · rcases List.mem_cons.mp h with rfl | h
      · exact absurd (self_orb x) hx
      · obtain ⟨r, h1, h2⟩ := lr_cover f (t.filter fun x => !(orb P n s).contains x) (by have := flen (fun x => !(orb P n s).contains x) t; simp at hl; omega) x (List.mem_filter.mpr ⟨h, by simpa using hx⟩)
        exact ⟨r, List.mem_cons_of_mem _ h1, h2⟩
theorem lr_tail (h : PM P n) {f : Nat} {s : Nat} {t r : List Nat} (hs : s < n) (ht : ∀ x ∈ t, x < n) (hr : r ∈ lr P n f (t.filter fun x => !(orb P n s).contains x)) {x : Nat} (hx : x ∈ r) : x ∉ orb P n s := by
  obtain ⟨y, hy, rfl⟩ := lr_mem _ _ _ hr
  obtain ⟨y1, y2⟩ := List.mem_filter.mp hy
  exact orb_apart h hs (ht y y1) (by simpa using y2) hx
theorem lr_disj (h : PM P n) : ∀ (f : Nat) (l : List Nat), (∀ x ∈ l, x < n) → ∀ r ∈ lr P n f l, ∀ r' ∈ lr P n f l, ∀ x, x ∈ r → x ∈ r' → r = r'
  | 0, _, _, _, hr, _, _, _, _, _ => by simp [lr] at hr
  | _ + 1, [], _, _, hr, _, _, _, _, _ => by simp [lr] at hr
  | f + 1, s :: t, hl, r, hr, r', hr', x, h1, h2 => by
    unfold lr at hr hr'
    have hs := hl s (by simp)
    have ht : ∀ x ∈ t, x < n := fun x hx => hl x (List.mem_cons_of_mem _ hx)
    rcases List.mem_cons.mp hr with rfl | hr <;> rcases List.mem_cons.mp hr' with rfl | hr'
    · rfl
    · exact absurd h1 (lr_tail h hs ht hr' h2)
    · exact absurd h2 (lr_tail h hs ht hr h1)
    · exact lr_disj h f _ (fun x hx => ht x (List.mem_filter.mp hx).1) r hr r' hr' x h1 h2
theorem lr_nodup (h : PM P n) : ∀ (f : Nat) (l : List Nat), (∀ x ∈ l, x < n) → (lr P n f l).Nodup
  | 0, _, _ => by simp [lr]
  | _ + 1, [], _ => by simp [lr]
  | f + 1, s :: t, hl => by
    unfold lr
    have hs := hl s (by simp)
    have ht : ∀ x ∈ t, x < n := fun x hx => hl x (List.mem_cons_of_mem _ hx)
    refine List.nodup_cons.mpr ⟨fun hm => lr_tail h hs ht hm (self_orb s) (self_orb s), lr_nodup h f _ fun x hx => ht x (List.mem_filter.mp hx).1⟩
/-- the rings that are kept are the rings of what is left of the turning -/
theorem lr_keep (h : PM P n) {keep : List Nat → Bool} {inL : Nat → Bool} : ∀ (f : Nat) (l : List Nat), (∀ x ∈ l, x < n) → l.length ≤ f → (∀ r ∈ lr P n f l, keep r = true → ∀ x ∈ r, inL x = true ∧ P' x = P x) → (∀ r ∈ lr P n f l, keep r = false → ∀ x ∈ r, inL x = false) →
    lr P' n f (l.filter inL) = (lr P n f l).filter keep
  | 0, _, _, _, _, _ => by simp [lr]
  | _ + 1, [], _, _, _, _ => by simp [lr]
  | f + 1, s :: t, hl, hf, h1, h2 => by
    have hs := hl s (by simp)
    have ht : ∀ x ∈ t, x < n := fun x hx => hl x (List.mem_cons_of_mem _ hx)
    have hf' : t.length ≤ f := by simpa using hf
    have m0 : orb P n s ∈ lr P n (f + 1) (s :: t) := by unfold lr; simp
    have mt : ∀ r, r ∈ lr P n f (t.filter fun x => !(orb P n s).contains x) → r ∈ lr P n (f + 1) (s :: t) := fun r hr => by
      show r ∈ orb P n s :: _
      exact List.mem_cons_of_mem _ hr
    have ih := lr_keep h f (t.filter fun x => !(orb P n s).contains x) (fun x hx => ht x (List.mem_filter.mp hx).1) (Nat.le_trans (flen _ _) hf') (fun r hr => h1 r (mt r hr)) (fun r hr => h2 r (mt r hr))
    show _ = (orb P n s :: lr P n f (t.filter fun x => !(orb P n s).contains x)).filter keep
    by_cases hk : keep (orb P n s) = true
    · have hsL := (h1 _ m0 hk s (self_orb s)).1
      have eo : orb P' n s = orb P n s := orb_congr h hs fun x hx => (h1 _ m0 hk x hx).2
      rw [List.filter_cons_of_pos hsL, List.filter_cons_of_pos hk]
      show orb P' n s :: lr P' n f ((t.filter inL).filter fun x => !(orb P' n s).contains x) = _
      rw [eo, ← ih, List.filter_filter, List.filter_filter]
      congr 2
      apply List.filter_congr
      intro x _
      rw [Bool.and_comm]
    · have hk' : keep (orb P n s) = false := by simpa using hk
      have hsL := h2 _ m0 hk' s (self_orb s)
      rw [List.filter_cons_of_neg (by rw [hsL]; simp), List.filter_cons_of_neg (by rw [hk']; simp), ← ih, lr_fuel f _ (Nat.le_trans (flen _ _) hf'), List.filter_filter]
      congr 1
      apply List.filter_congr
      intro x _
      by_cases hx : x ∈ orb P n s
      · simp [h2 _ m0 hk' x hx]
      · simp [hx]
theorem dif_ring (h : PM P n) (hn : 1 ≤ n) {dif : Nat → Bool} (hd : ∀ s, s < n → dif s = false → P s = s) {s x : Nat} (hs : s < n) (h1 : dif s = true) (hx : x ∈ orb P n s) : dif x = true := by
  cases hb : dif x with
  | true => rfl
  | false =>
    have hl := orb_lt h hs hx
    have e := orb_fix (P := P) hn (hd x hl hb)
    have := orb_sym h hs hx
    rw [e] at this
    simp at this
    rw [this, hb] at h1
    cases h1
end Cy

/-! plain facts on data, tables, choices. -/
namespace Pd
open PySem PySem.Spec PyProof.Rows L2
/-! ### comprehensions -/
theorem cRun_map {g : MG} {tf : MT} {f : M} {vs : List Nat} {δ0 : DE} (o : D → D) : ∀ ds : List D, (∀ d ∈ ds, ∃ δ1 δ2 δ3, g d δ0 = some δ1 ∧ tf δ1 = some (true, δ2) ∧ f δ2 = some (o d, δ3) ∧ wipeD δ3 vs = δ0) → cRun g tf f vs ds δ0 = some (ds.map o, δ0)
  | [], _ => rfl
  | d :: r, h => by
    obtain ⟨δ1, δ2, δ3, h1, h2, h3, h4⟩ := h d (List.mem_cons_self ..)
    have ih := cRun_map o r fun d hd => h d (List.mem_cons_of_mem _ hd)
    simp only [cRun, h1, h2, h3, h4, ih, List.map_cons]
theorem cRun_filter {g : MG} {tf : MT} {f : M} {vs : List Nat} {δ0 : DE} (p : D → Bool) (o : D → D) : ∀ ds : List D, (∀ d ∈ ds, ∃ δ1 δ2, g d δ0 = some δ1 ∧ tf δ1 = some (p d, δ2) ∧ (p d = true → ∃ δ3, f δ2 = some (o d, δ3) ∧ wipeD δ3 vs = δ0) ∧ (p d = false → wipeD δ2 vs = δ0)) → cRun g tf f vs ds δ0 = some ((ds.filter p).map o, δ0)
  | [], _ => rfl
  | d :: r, h => by
    obtain ⟨δ1, δ2, h1, h2, h3, h4⟩ := h d (List.mem_cons_self ..)
    have ih := cRun_filter p o r fun d hd => h d (List.mem_cons_of_mem _ hd)
    cases hp : p d with
    | true =>
      obtain ⟨δ3, h5, h6⟩ := h3 hp
      rw [hp] at h2
      simp only [cRun, h1, h2, h5, h6, ih, List.filter_cons, hp, if_true, List.map_cons]
    | false =>
      have h5 := h4 hp
      rw [hp] at h2
      simp only [cRun, h1, h2, h5, ih, List.filter_cons, hp, if_neg Bool.false_ne_true]
theorem lComp_map {it : MA} {g : MG} {tf : MT} {f : M} {vs : List Nat} {δ δ1 δ0 : DE} {ds : List D} (o : D → D) (hi : it δ = some (ds, δ1)) (hn : noOwn vs δ1 = true) (hl : ds.length ≤ 100000) (hw : wipeD δ1 vs = δ0)
    (h : ∀ d ∈ ds, ∃ δ1 δ2 δ3, g d δ0 = some δ1 ∧ tf δ1 = some (true, δ2) ∧ f δ2 = some (o d, δ3) ∧ wipeD δ3 vs = δ0) : lComp it g tf f vs δ = some (ds.map o, mergeD δ1 δ0 vs) := by
  subst hw
  simp only [lComp, hi, hn, hl, and_self, if_true, cRun_map o ds h]
theorem lComp_filter {it : MA} {g : MG} {tf : MT} {f : M} {vs : List Nat} {δ δ1 δ0 : DE} {ds : List D} (p : D → Bool) (o : D → D) (hi : it δ = some (ds, δ1)) (hn : noOwn vs δ1 = true) (hl : ds.length ≤ 100000) (hw : wipeD δ1 vs = δ0)
    (h : ∀ d ∈ ds, ∃ δ1 δ2, g d δ0 = some δ1 ∧ tf δ1 = some (p d, δ2) ∧ (p d = true → ∃ δ3, f δ2 = some (o d, δ3) ∧ wipeD δ3 vs = δ0) ∧ (p d = false → wipeD δ2 vs = δ0)) : lComp it g tf f vs δ = some ((ds.filter p).map o, mergeD δ1 δ0 vs) := by
  subst hw
  simp only [lComp, hi, hn, hl, and_self, if_true, cRun_filter p o ds h]
/-! ### whole numbers in a range -/
def isIx (n : Int) : D → Bool
  | .int i => decide (0 ≤ i) && decide (i < n)
  | _ => false
def ND0 (d : D) : Prop := ∀ kvs, d ≠ .dict kvs
theorem bools_map (f : D → Bool) : ∀ ds : List D, boolsD (ds.map fun d => .bool (f d)) = some (ds.map f)
  | [] => rfl
  | d :: r => by
    rw [List.map_cons, List.map_cons]
    simp only [boolsD, bools_map f r, Option.map_some]
theorem uAll_map (f : D → Bool) (ds : List D) : uAll (.list (ds.map fun d => .bool (f d))) = some (.bool (ds.all f)) := by
  simp only [uAll, bools_map, Option.map_some, List.all_map]
  rfl
theorem isT (ds : List D) : uIs "tuple" (.tuple ds) = some (.bool true) := by rfl
theorem isT_int (i : Int) : uIs "tuple" (.int i) = some (.bool false) := by rfl
def areIx (n : Int) : D → Bool
  | .tuple ds => ds.all (isIx n)
  | _ => false
def ND1 (d : D) : Prop := ND0 d ∧ ∀ ds, d = .tuple ds → ds.length ≤ 100000 ∧ ∀ e ∈ ds, ND0 e
/-! ### changes -/
def zipW (f : D → D → D) : List D → List D → List D
  | x :: xs, y :: ys => f x y :: zipW f xs ys
  | _, _ => []
theorem isIx_int {n : Int} {d : D} (h : isIx n d = true) : ∃ i, d = .int i := by
  cases d <;> first | exact ⟨_, rfl⟩ | cases h
theorem all_ints {n : Int} : ∀ {ds : List D}, ds.all (isIx n) = true → ∃ ns : List Int, ds = ns.map .int ∧ ∀ i ∈ ns, 0 ≤ i ∧ i < n
  | [], _ => ⟨[], rfl, fun i h => by cases h⟩
  | d :: r, h => by
    rw [List.all_cons, Bool.and_eq_true] at h
    obtain ⟨ns, e, hb⟩ := all_ints h.2
    obtain ⟨i, rfl⟩ := isIx_int h.1
    have hi : 0 ≤ i ∧ i < n := by
      have := h.1
      simp only [isIx, Bool.and_eq_true, decide_eq_true_eq] at this
      exact this
    exact ⟨i :: ns, by rw [e]; rfl, fun j hj => (List.mem_cons.mp hj).elim (fun e => by rw [e]; exact hi) (hb j)⟩
theorem zipD_len' : ∀ xs ys : List D, (zipD xs ys).length = min xs.length ys.length
  | [], ys => by simp [zipD]
  | _ :: _, [] => by simp [zipD]
  | x :: xs, y :: ys => by
    simp only [zipD, List.length_cons, zipD_len' xs ys]
    omega
theorem zip_len (xs ys : List D) : (zipD xs ys).length ≤ xs.length := by
  rw [zipD_len' xs ys]
  omega
/-! ### the law's own checks -/
/-! ### the two say the same -/
/-! ### leads -/
def ND2 (d : D) : Prop := ND0 d ∧ ∀ ds, d = .tuple ds → ds.length ≤ 100000 ∧ ∀ e ∈ ds, ND1 e
/-! ### rows -/
def rnds (b : Nat) : List Int := (List.range b).map fun (i : Nat) => (i : Int)
def isB (b : Nat) : Prop := b = 2 ∨ b = 3 ∨ b = 4 ∨ b = 5 ∨ b = 6
theorem rnds_len (b : Nat) : (rnds b).length = b := by
  unfold rnds
  rw [List.length_map, List.length_range]
theorem rnds_mem {b : Nat} {i : Int} (h : i ∈ rnds b) : 0 ≤ i ∧ i < b := by
  obtain ⟨k, hk, rfl⟩ := List.mem_map.mp h
  have := List.mem_range.mp hk
  omega
theorem nd_int (i : Int) : ND0 (.int i) := fun _ h => by cases h
theorem nd1_tI (ns : List Int) (h : ns.length ≤ 100000) : ND1 (tI ns) := by
  refine ⟨fun _ h => (by cases h), fun ds e => ?_⟩
  cases e
  refine ⟨by rw [List.length_map]; exact h, fun d hd => ?_⟩
  obtain ⟨i, _, rfl⟩ := List.mem_map.mp hd
  exact nd_int i
theorem all_ix {n : Int} : ∀ {ns : List Int}, (∀ i ∈ ns, 0 ≤ i ∧ i < n) → (ns.map PyData.int).all (isIx n) = true
  | [], _ => rfl
  | i :: r, h => by
    rw [List.map_cons, List.all_cons, all_ix fun j hj => h j (List.mem_cons_of_mem _ hj)]
    have := h i (List.mem_cons_self ..)
    simp [isIx, this.1, this.2]
theorem rnds_sorted (b : Nat) : (rnds b).Pairwise (leI · ·) := by
  unfold rnds
  refine List.pairwise_map.mpr ((List.pairwise_lt_range (n := b)).imp fun h => ?_)
  exact decide_eq_true (by omega)
theorem ints_ok : ∀ ns : List Int, intsD (ns.map PyData.int) = some ns
  | [] => rfl
  | n :: r => by
    rw [List.map_cons]
    simp only [intsD, ints_ok r, Option.map_some]
theorem rg_rnds {b : Nat} (hb : isB b) : rgD 0 (b : Nat) = (rnds b).map .int := by
  rcases hb with rfl | rfl | rfl | rfl | rfl <;> rfl
theorem eq_rnds {b : Nat} (hb : isB b) : cEq (.list ((rnds b).map .int)) (.list ((rnds b).map .int)) = some true := by
  rcases hb with rfl | rfl | rfl | rfl | rfl <;> rfl
/-! ### what a change does -/
/-! ### the rows of a lead -/
/-! ### one row behind another -/
/-! ### the draws -/
def CupOk (xs : List D) : Prop := ∃ c0 c1 : Int, xs = [.int c0, .int c1] ∧ 0 ≤ c0 ∧ 0 ≤ c1 ∧ c1 < 4294967296
theorem ix0 (a b : D) : ixD (.list [a, b]) (.int 0) = some a := by rfl
theorem ix1 (a b : D) : ixD (.list [a, b]) (.int 1) = some b := by rfl
theorem small_in {i : Int} (h0 : 0 ≤ i) (h1 : i < 4294967296) : small i = true := by
  unfold small
  simp only [Bool.and_eq_true, decide_eq_true_eq]
  omega
theorem ixn0 : ixN 2 0 = some 0 := by rfl
theorem ixn1 : ixN 2 1 = some 1 := by rfl
theorem getAt {ds : List D} {k : Int} (h0 : 0 ≤ k) (h1 : k < ds.length) : ∃ d, ds[k.toNat]? = some d ∧ d ∈ ds ∧ ixD (.list ds) (.int k) = some d := by
  obtain ⟨j, rfl⟩ : ∃ j : Nat, k = j := ⟨k.toNat, by omega⟩
  have hk : j < ds.length := by omega
  rw [Int.toNat_natCast]
  exact ⟨ds[j], List.getElem?_eq_getElem hk, List.getElem_mem hk, atI_nat (List.getElem?_eq_getElem hk)⟩
theorem erase_map {α β : Type} (f : α → β) : ∀ (l : List α) (i : Nat), (l.map f).eraseIdx i = (l.eraseIdx i).map f
  | [], _ => rfl
  | _ :: _, 0 => rfl
  | x :: r, i + 1 => by
    show f x :: (r.map f).eraseIdx i = f x :: (r.eraseIdx i).map f
    rw [erase_map f r i]
theorem erase_perm : ∀ (l : List Int) (i : Nat) (h : i < l.length), (l[i] :: l.eraseIdx i).Perm l
  | [], _, h => absurd h (by simp)
  | _ :: _, 0, _ => .refl _
  | x :: r, i + 1, h => by
    show (r[i]'(by simpa using h) :: x :: r.eraseIdx i).Perm (x :: r)
    exact (List.Perm.swap _ _ _).trans ((erase_perm r i (by simpa using h)).cons x)
theorem shaped_ints : ∀ ns : List Int, SeqAt.shaped (.list (ns.map PyData.int)) = true
  | [] => rfl
  | _ :: r => shaped_ints r
theorem ne_nil (ns : List Int) : cNe (.list (ns.map PyData.int)) (.list []) = some (!ns.isEmpty) := by
  unfold cNe
  rw [if_pos ⟨shaped_ints ns, rfl⟩]
  cases ns <;> rfl
def tbD (T : List (List Int)) : D := .tuple (T.map tI)
def col (T : List (List Int)) (k : Nat) : List Int := T.map fun r => r.getD k 0
structure Tb (T : List (List Int)) (n w : Nat) : Prop where
  n1 : 1 ≤ n
  n2 : n ≤ 720
  w1 : 1 ≤ w
  w2 : w ≤ 6
  len : T.length = n
  wid : ∀ r ∈ T, r.length = w
  ent : ∀ r ∈ T, ∀ i ∈ r, 0 ≤ i ∧ i < (n : Int)
  nod : ∀ k, k < w → (col T k).Nodup
theorem dd_nodup_self : ∀ {ns : List Int}, ns.Nodup → ddI ns = ns
  | [], _ => rfl
  | a :: r, h => by
    obtain ⟨h1, h2⟩ := List.nodup_cons.mp h
    unfold ddI
    rw [dd_nodup_self h2]
    have : r.contains a = false := by simpa using h1
    rw [this]
    rfl
theorem cnt_nodup {ns : List Int} (h : ns.Nodup) : cntI ns = ns.length := by
  unfold cntI
  rw [dd_nodup_self h]
theorem rg_rn (n : Nat) : rgD 0 (n : Int) = (rnds n).map .int := by
  unfold rgD rnds
  rw [List.map_map]
  simp
theorem zip_maps {α β : Type} (f : α → D) (g : β → D) : ∀ (xs : List α) (ys : List β), zipD (xs.map f) (ys.map g) = (xs.zip ys).map fun p => .tuple [f p.1, g p.2]
  | [], _ => by simp [zipD]
  | _ :: _, [] => by simp [zipD]
  | x :: xs, y :: ys => by
    simp only [List.map_cons, zipD, List.zip_cons_cons, zip_maps f g xs ys]
theorem swap_perm {α : Type} (l : List α) (i j : Nat) (hi : i < l.length) (hj : j < l.length) : ((l.set i l[j]).set j l[i]).Perm l := by
  have h : (l.toArray.swap i j (by simpa using hi) (by simpa using hj)).toList.Perm l := (Array.perm_iff_toList_perm.mp (Array.swap_perm (xs := l.toArray) (by simpa using hi) (by simpa using hj)))
  simpa [Array.swap] using h
theorem swap_ints (l : List Int) (i j : Nat) (hi : i < l.length) (hj : j < l.length) : (((l.map PyData.int).set i (.int l[j])).set j (.int l[i])) = ((l.set i l[j]).set j l[i]).map .int := by
  rw [List.map_set, List.map_set]
/-- the table of some ways -/
def tbl (n : Nat) (W : List (List Int)) : List (List Int) := (List.range n).map fun k => W.map fun p => p.getD k 0
theorem tbl_ok {n : Nat} (h1 : 1 ≤ n) (h2 : n ≤ 720) {W : List (List Int)} (hw1 : 1 ≤ W.length) (hw2 : W.length ≤ 6) (hp : ∀ p ∈ W, p.Perm (rnds n)) : Tb (tbl n W) n W.length := by
  refine ⟨h1, h2, hw1, hw2, by simp [tbl], ?_, ?_, ?_⟩
  · intro r hr
    unfold tbl at hr
    obtain ⟨k, _, rfl⟩ := List.mem_map.mp hr
    simp
  · intro r hr i hi
    unfold tbl at hr
    obtain ⟨k, hk, rfl⟩ := List.mem_map.mp hr
    rw [List.mem_range] at hk
    obtain ⟨p, hpm, rfl⟩ := List.mem_map.mp hi
    have hl : p.length = n := (hp p hpm).length_eq.trans (rnds_len n)
    have : p.getD k 0 ∈ p := by
      rw [List.getD_eq_getElem?_getD, List.getElem?_eq_getElem (by omega)]
      exact List.getElem_mem _
    exact rnds_mem ((hp p hpm).mem_iff.mp this)
  · intro k hk
    have hpm : W[k] ∈ W := List.getElem_mem _
    have hl : W[k].length = n := (hp _ hpm).length_eq.trans (rnds_len n)
    have e : col (tbl n W) k = W[k] := by
      unfold col tbl
      rw [List.map_map]
      apply List.ext_getElem
      · simp [hl]
      · intro m hm1 hm2
        simp
        rw [List.getElem?_eq_getElem hk]
        simp
        rw [List.getElem?_eq_getElem hm2]
        rfl
    rw [e]
    refine (hp _ hpm).nodup_iff.mpr ?_
    unfold rnds
    refine List.Pairwise.map _ (fun a b (hab : a ≠ b) => ?_) List.nodup_range
    omega
theorem last_set {α : Type} (l : List α) (v : α) (hl : l ≠ []) : ∀ x ∈ l.set (l.length - 1) v, x ∈ l ∨ x = v := fun x hx => List.mem_or_eq_of_mem_set hx
theorem perm_of_nodup {α : Type} [DecidableEq α] : ∀ {l m : List α}, l.Nodup → (∀ x ∈ l, x ∈ m) → m.length = l.length → l.Perm m
  | [], m, _, _, h => by
    have : m = [] := List.length_eq_zero_iff.mp h
    rw [this]
  | x :: l, m, nd, hs, h => by
    have hx := hs x (List.mem_cons_self ..)
    obtain ⟨h1, h2⟩ := List.nodup_cons.mp nd
    have ih := perm_of_nodup (l := l) (m := m.erase x) h2 (fun y hy => (List.mem_erase_of_ne (fun e : y = x => h1 (by rw [← e]; exact hy))).mpr (hs y (List.mem_cons_of_mem _ hy))) (by rw [List.length_erase_of_mem hx, h]; rfl)
    exact (ih.cons x).trans (List.perm_cons_erase hx).symm
def cD (c : List Nat) : D := .tuple (c.map fun k => .int (k : Nat))
def nxt (T : List (List Int)) (c : List Nat) : List Int := (T.zip c).map fun p => p.1.getD p.2 0
theorem nxt_len (h : Tb T n w) {c : List Nat} (hc : c.length = n) : (nxt T c).length = n := by
  unfold nxt
  rw [List.length_map, List.length_zip, h.len, hc, Nat.min_self]
theorem enum_gen {α : Type} (f : α → D) : ∀ (l : List α) (i : Nat), enumD i (l.map f) = (l.zipIdx i).map fun p => .tuple [.int (p.2 : Nat), f p.1]
  | [], _ => rfl
  | a :: l, i => by
    rw [List.map_cons, enumD, enum_gen f l (i + 1), List.zipIdx_cons, List.map_cons]
theorem dd_le : ∀ ns : List Int, (ddI ns).length ≤ ns.length
  | [] => Nat.le_refl _
  | a :: r => by
    have := dd_le r
    unfold ddI
    split <;> simp <;> omega
theorem nodup_of_cnt : ∀ {ns : List Int}, cntI ns = ns.length → ns.Nodup
  | [], _ => List.nodup_nil
  | a :: r, h => by
    have hle := dd_le r
    unfold cntI ddI at h
    split at h
    · simp at h
      omega
    · rename_i hc
      simp at h
      refine List.nodup_cons.mpr ⟨fun hm => hc ?_, nodup_of_cnt h⟩
      simpa using hm
/-- all choices -/
def allC (w : Nat) : Nat → List (List Nat)
  | 0 => [[]]
  | m + 1 => ((allC w m).map fun r => (List.range w).map fun k => r ++ [k]).flatten
theorem allC_mem {w : Nat} : ∀ {m : Nat} {c : List Nat}, c ∈ allC w m → c.length = m ∧ ∀ k ∈ c, k < w
  | 0, c, h => by
    simp [allC] at h
    subst h
    simp
  | m + 1, c, h => by
    simp only [allC, List.mem_flatten, List.mem_map] at h
    obtain ⟨l, ⟨r, hr, rfl⟩, hm⟩ := h
    obtain ⟨k, hk, rfl⟩ := List.mem_map.mp hm
    rw [List.mem_range] at hk
    obtain ⟨h1, h2⟩ := allC_mem hr
    refine ⟨by simp [h1], fun j hj => ?_⟩
    rcases List.mem_append.mp hj with z | z
    · exact h2 j z
    · rw [List.mem_singleton.mp z]
      exact hk
theorem allC_rep {w k : Nat} (hk : k < w) : ∀ m : Nat, List.replicate m k ∈ allC w m
  | 0 => by simp [allC]
  | m + 1 => by
    simp only [allC, List.mem_flatten, List.mem_map]
    exact ⟨_, ⟨_, allC_rep hk m, rfl⟩, List.mem_map.mpr ⟨k, List.mem_range.mpr hk, List.replicate_succ'.symm⟩⟩
theorem allC_len (w : Nat) : ∀ m : Nat, (allC w m).length = w ^ m
  | 0 => rfl
  | m + 1 => by
    simp [allC]
    rw [show (List.length ∘ fun r : List Nat => (List.range w).map fun k => r ++ [k]) = fun _ => w from funext fun r => by simp]
    rw [List.map_const', List.sum_replicate_nat, allC_len w m, Nat.pow_succ]
/-- the one to one choices -/
def ones (T : List (List Int)) (n w : Nat) : List (List Nat) := (allC w n).filter fun c => decide (cntI (nxt T c) = (nxt T c).length)
theorem nxt_perm (h : Tb T n w) {c : List Nat} (hc : c.length = n) (hw : ∀ k ∈ c, k < w) (hd : (nxt T c).Nodup) : (nxt T c).Perm (rnds n) := by
  have hl := nxt_len h hc
  have hsub : ∀ x ∈ nxt T c, x ∈ rnds n := by
    intro x hx
    unfold nxt at hx
    obtain ⟨p, hp, rfl⟩ := List.mem_map.mp hx
    obtain ⟨r, k⟩ := p
    obtain ⟨hr, hk⟩ := List.of_mem_zip hp
    have hrl := h.wid r hr
    have hkw := hw k hk
    have hm : r.getD k 0 ∈ r := by
      rw [List.getD_eq_getElem?_getD, List.getElem?_eq_getElem (by omega)]
      exact List.getElem_mem _
    obtain ⟨a0, a1⟩ := h.ent r hr _ hm
    unfold rnds
    exact List.mem_map.mpr ⟨(r.getD k 0).toNat, List.mem_range.mpr (by omega), Int.toNat_of_nonneg a0⟩
  exact perm_of_nodup hd hsub (by rw [rnds_len, hl])
theorem nxt_rep (h : Tb T n w) {k : Nat} (hk : k < w) : nxt T (List.replicate n k) = col T k := by
  have hl := h.len
  unfold nxt col
  apply List.ext_getElem
  · simp [hl]
  · intro m h1 h2
    simp at h1 h2 ⊢
theorem zip_maps2 {α β : Type} (f : α → D) (g : β → D) (xs : List α) (ys : List β) : zipD (xs.map f) (ys.map g) = (xs.zip ys).map fun p => .tuple [f p.1, g p.2] := zip_maps f g xs ys
theorem rnds_nodup (b : Nat) : (rnds b).Nodup := by
  unfold rnds
  refine List.pairwise_map.mpr (List.nodup_range.imp fun h e => h (by omega))
/-! ### rings of whole numbers -/
def sig (p : List Int) (q : List Bool) : List Int := (p.zip (q.zip (List.range p.length))).map fun z => if z.2.1 then z.1 else (z.2.2 : Int)
def rD (r : List Nat) : D := .tuple (r.map fun (i : Nat) => .int (i : Int))
theorem wp_retE {o : Option Res} {Q : D → Prop} (h : Wp o (retK Q)) : ∃ d, o = some (.ret d) ∧ Q d := by
  obtain ⟨a, e, q⟩ := h
  cases a with
  | ret d => exact ⟨d, e, q⟩
  | exc c p => exact absurd q id
/-- a choice -/
structure Ch (c : List Nat) (n w : Nat) : Prop where
  len : c.length = n
  lt : ∀ k ∈ c, k < w
variable {T : List (List Int)} {n w : Nat} {c f g : List Nat}
theorem cD_tI (c : List Nat) : cD c = tI (c.map fun (k : Nat) => (k : Int)) := by simp [cD, tI]
theorem len_tb (h : Tb T n w) : uLen (tbD T) = some (.int (n : Nat)) := by
  rw [show uLen (tbD T) = some (.int ((T.map tI).length : Nat)) from rfl, List.length_map, h.len]
theorem head_tb (h : Tb T n w) {Q : D → Prop} (q : ∀ r, r.length = w → Q (tI r)) : Wp (ixE (tbD T) (.int 0)) Q := by
  have n1 := h.n1
  have hl := h.len
  rw [show tbD T = .tuple (T.map tI) from rfl]
  simp
  refine wp_atI (k := 0) (by omega) ?_
  exact q _ (h.wid _ (List.getElem_mem _))
variable {T : List (List Int)} {n w : Nat} {c f g : List Nat}
structure On (T : List (List Int)) (n w : Nat) (c : List Nat) : Prop where
  ch : Ch c n w
  nd : (nxt T c).Nodup
/-! ### from the one to the other -/
def pi (T : List (List Int)) (f g : List Nat) : List Int := (nxt T f).map fun e => (((nxt T g).idxOf e : Nat) : Int)
def dif (f g : List Nat) : List Bool := (f.zip g).map fun p => decide (p.1 ≠ p.2)
theorem nx_perm (h : Tb T n w) (hc : On T n w c) : (nxt T c).Perm (rnds n) := nxt_perm h hc.ch.len hc.ch.lt hc.nd
theorem pi_perm (h : Tb T n w) (hf : On T n w f) (hg : On T n w g) : (pi T f g).Perm (rnds n) := by
  have pf := nx_perm h hf
  have pg := nx_perm h hg
  have gl := pg.length_eq.trans (rnds_len n)
  refine perm_of_nodup ?_ ?_ ?_
  · unfold pi
    unfold List.Nodup
    rw [List.pairwise_map]
    refine List.Pairwise.imp_of_mem (fun {x y} hx hy hne e => hne ?_) hf.nd
    have mx : x ∈ nxt T g := pg.mem_iff.mpr (pf.mem_iff.mp hx)
    have my : y ∈ nxt T g := pg.mem_iff.mpr (pf.mem_iff.mp hy)
    have ix := List.idxOf_lt_length_iff.mpr mx
    have iy := List.idxOf_lt_length_iff.mpr my
    have e2 : (nxt T g).idxOf x = (nxt T g).idxOf y := by omega
    have h1 := List.getElem_idxOf ix
    have h2 := List.getElem_idxOf iy
    rw [← h1, ← h2]
    congr 1
  · intro x hx
    unfold pi at hx
    obtain ⟨e, he, rfl⟩ := List.mem_map.mp hx
    have me : e ∈ nxt T g := pg.mem_iff.mpr (pf.mem_iff.mp he)
    have ie := List.idxOf_lt_length_iff.mpr me
    unfold rnds
    exact List.mem_map.mpr ⟨_, List.mem_range.mpr (by omega), rfl⟩
  · rw [rnds_len]
    unfold pi
    rw [List.length_map, pf.length_eq, rnds_len]
variable {T : List (List Int)} {n w : Nat} {c f g : List Nat}
/-! ### patterns -/
def mix (f g : List Nat) (q : List Bool) : List Nat := (q.zip (f.zip g)).map fun z => if z.1 then z.2.1 else z.2.2
theorem mix_snoc {f g : List Nat} {q : List Bool} {x : Bool} {a b : Nat} (hq : q.length = f.length) (hg : g.length = f.length) : mix (f ++ [a]) (g ++ [b]) (q ++ [x]) = mix f g q ++ [if x then a else b] := by
  unfold mix
  rw [List.zip_append (by omega), List.zip_append (by rw [List.length_zip]; omega), List.map_append]
  rfl
theorem mix_len {q : List Bool} (hq : q.length = n) (hf : f.length = n) (hg : g.length = n) : (mix f g q).length = n := by
  unfold mix
  rw [List.length_map, List.length_zip, List.length_zip]
  omega
theorem mix_get {q : List Bool} (hq : q.length = n) (hf : f.length = n) (hg : g.length = n) {i : Nat} (hi : i < n) : (mix f g q).getD i 0 = if q.getD i true then f.getD i 0 else g.getD i 0 := by
  unfold mix
  have h1 : i < q.length := by omega
  have h2 : i < f.length := by omega
  have h3 : i < g.length := by omega
  rw [List.getD_eq_getElem?_getD, List.getElem?_map, List.getElem?_eq_getElem (by rw [List.length_zip, List.length_zip]; omega), List.getElem_zip, List.getElem_zip]
  simp [h1, h2, h3]
theorem take_snoc {α : Type} {l : List α} {i : Nat} (h : i < l.length) : l.take (i + 1) = l.take i ++ [l[i]] := by
  rw [List.take_succ, List.getElem?_eq_getElem h]
  rfl
variable {T : List (List Int)} {n w : Nat} {c f g : List Nat}
/-! ### what a mixed choice leads to -/
theorem mix_ch {q : List Bool} (hq : q.length = n) (hf : Ch f n w) (hg : Ch g n w) : Ch (mix f g q) n w := by
  refine ⟨mix_len hq hf.len hg.len, ?_⟩
  intro k hk
  unfold mix at hk
  obtain ⟨z, hz, rfl⟩ := List.mem_map.mp hk
  have h1 := List.of_mem_zip hz
  have h2 := List.of_mem_zip h1.2
  split
  · exact hf.lt _ h2.1
  · exact hg.lt _ h2.2
theorem nxt_get (h : Tb T n w) (hc : c.length = n) {i : Nat} (hi : i < n) : (nxt T c).getD i 0 = (T.getD i []).getD (c.getD i 0) 0 := by
  have hl := h.len
  unfold nxt
  rw [List.getD_eq_getElem?_getD, List.getElem?_map, List.getElem?_eq_getElem (by rw [List.length_zip]; omega), List.getElem_zip]
  have h1 : i < T.length := by omega
  have h2 : i < c.length := by omega
  simp [h1, h2]
theorem sig_len {p : List Int} {q : List Bool} (hp : p.length = n) (hq : q.length = n) : (sig p q).length = n := by
  unfold sig
  rw [List.length_map, List.length_zip, List.length_zip, List.length_range]
  omega
theorem sig_get {p : List Int} {q : List Bool} (hp : p.length = n) (hq : q.length = n) {i : Nat} (hi : i < n) : (sig p q).getD i 0 = if q.getD i true then p.getD i 0 else (i : Int) := by
  unfold sig
  have h1 : i < p.length := by omega
  have h2 : i < q.length := by omega
  rw [List.getD_eq_getElem?_getD, List.getElem?_map, List.getElem?_eq_getElem (by rw [List.length_zip, List.length_zip, List.length_range]; omega), List.getElem_zip, List.getElem_zip]
  simp [h1, h2]
theorem pi_get (h : Tb T n w) (hf : On T n w f) (hg : On T n w g) {i : Nat} (hi : i < n) : 0 ≤ (pi T f g).getD i 0 ∧ (pi T f g).getD i 0 < n ∧ (nxt T g).getD ((pi T f g).getD i 0).toNat 0 = (nxt T f).getD i 0 := by
  have pf := nx_perm h hf
  have pg := nx_perm h hg
  have fl := pf.length_eq.trans (rnds_len n)
  have gl := pg.length_eq.trans (rnds_len n)
  have h1 : i < (nxt T f).length := by omega
  have hm : (nxt T f)[i] ∈ nxt T g := pg.mem_iff.mpr (pf.mem_iff.mp (List.getElem_mem _))
  have ie := List.idxOf_lt_length_iff.mpr hm
  have e : (pi T f g).getD i 0 = (((nxt T g).idxOf (nxt T f)[i] : Nat) : Int) := by
    unfold pi
    rw [List.getD_eq_getElem?_getD, List.getElem?_map, List.getElem?_eq_getElem h1]
    rfl
  rw [e]
  refine ⟨by omega, by omega, ?_⟩
  rw [Int.toNat_natCast, List.getD_eq_getElem?_getD, List.getD_eq_getElem?_getD, List.getElem?_eq_getElem ie, List.getElem?_eq_getElem h1, List.getElem_idxOf ie]
theorem nxt_mix (h : Tb T n w) (hf : On T n w f) (hg : On T n w g) {q : List Bool} (hq : q.length = n) : nxt T (mix f g q) = (sig (pi T f g) q).map fun j => (nxt T g).getD j.toNat 0 := by
  have pl : (pi T f g).length = n := (pi_perm h hf hg).length_eq.trans (rnds_len n)
  have ml := mix_len hq hf.ch.len hg.ch.len
  have nl := nxt_len h ml
  have sl := sig_len pl hq
  have key : ∀ i, i < n → (nxt T (mix f g q)).getD i 0 = (nxt T g).getD ((sig (pi T f g) q).getD i 0).toNat 0 := by
    intro i hi
    have pg := pi_get h hf hg hi
    rw [nxt_get h ml hi, mix_get hq hf.ch.len hg.ch.len hi, sig_get pl hq hi]
    split
    · rw [pg.2.2, nxt_get h hf.ch.len hi]
    · rw [Int.toNat_natCast, nxt_get h hg.ch.len hi]
  apply List.ext_getElem
  · rw [nl, List.length_map, sl]
  · intro i h1 h2
    have := key i (by omega)
    rw [List.getD_eq_getElem?_getD, List.getElem?_eq_getElem h1, List.getD_eq_getElem?_getD (l := sig (pi T f g) q), List.getElem?_eq_getElem (by omega)] at this
    rw [List.getElem_map]
    simpa using this
theorem nodup_mix (h : Tb T n w) (hf : On T n w f) (hg : On T n w g) {q : List Bool} (hq : q.length = n) : (nxt T (mix f g q)).Nodup ↔ (sig (pi T f g) q).Nodup := by
  rw [nxt_mix h hf hg hq]
  have pl : (pi T f g).length = n := (pi_perm h hf hg).length_eq.trans (rnds_len n)
  have sl := sig_len pl hq
  have gl := (nx_perm h hg).length_eq.trans (rnds_len n)
  have rng : ∀ j ∈ sig (pi T f g) q, 0 ≤ j ∧ j < n := by
    intro j hj
    obtain ⟨i, hi, rfl⟩ := List.getElem_of_mem hj
    have := sig_get pl hq (i := i) (by omega)
    rw [List.getD_eq_getElem?_getD, List.getElem?_eq_getElem hi] at this
    simp only [Option.getD_some] at this
    rw [this]
    have pg := pi_get h hf hg (i := i) (by omega)
    split
    · exact ⟨pg.1, pg.2.1⟩
    · omega
  unfold List.Nodup
  rw [List.pairwise_map]
  constructor
  · intro hp
    exact hp.imp fun {x y} hne e => hne (by rw [e])
  · intro hp
    refine List.Pairwise.imp_of_mem (fun {x y} hx hy hne e => hne ?_) hp
    have rx := rng x hx
    have ry := rng y hy
    rw [List.getD_eq_getElem?_getD, List.getD_eq_getElem?_getD, List.getElem?_eq_getElem (by omega), List.getElem?_eq_getElem (by omega)] at e
    simp only [Option.getD_some] at e
    have := (List.getElem_inj hg.nd).mp e
    omega
variable {T : List (List Int)} {n w : Nat} {c f g : List Nat}
theorem zip3_map {α β γ : Type} (a : α → D) (b : β → D) (c : γ → D) : ∀ (xs : List α) (ys : List β) (zs : List γ), zip3D (xs.map a) (ys.map b) (zs.map c) = (xs.zip (ys.zip zs)).map fun p => .tuple [a p.1, b p.2.1, c p.2.2]
  | [], _, _ => by simp [zip3D]
  | _ :: _, [], _ => by simp [zip3D]
  | _ :: _, _ :: _, [] => by simp [zip3D]
  | x :: xs, y :: ys, z :: zs => by
    simp only [List.map_cons, zip3D, List.zip_cons_cons, zip3_map a b c xs ys zs]
theorem mix_in : ∀ {f g : List Nat} {q : List Bool}, ∀ p ∈ (mix f g q).zip (f.zip g), p.1 = p.2.1 ∨ p.1 = p.2.2
  | [], _, q, p, h => by simp at h
  | _ :: _, [], q, p, h => by simp at h
  | a :: f, b :: g, [], p, h => by simp [mix] at h
  | a :: f, b :: g, x :: q, p, h => by
    have e : mix (a :: f) (b :: g) (x :: q) = (if x then a else b) :: mix f g q := rfl
    rw [e, List.zip_cons_cons, List.zip_cons_cons] at h
    rcases List.mem_cons.mp h with rfl | h
    · cases x <;> simp
    · exact mix_in p h
theorem seq_cD (c : List Nat) : seqD (cD c) = some (c.map fun (k : Nat) => (.int (k : Int) : D)) := rfl
theorem shaped_flat (ns : List Int) : (ns.map PyData.int).all flat = true := by
  rw [List.all_map, List.all_eq_true]
  intro x _
  rfl
theorem any_int (ns : List Int) (i : Int) : ((ns.map PyData.int).any fun z => PyData.eqv z (.int i)) = decide (i ∈ ns) := by
  induction ns with
  | nil => simp
  | cons n r ih =>
    rw [List.map_cons, List.any_cons, ih]
    simp [eq_comm]
theorem in_two (i a b : Int) : cInE (.int i) (.tuple [.int a, .int b]) = some (decide (i = a ∨ i = b)) := by
  have e : cInE (.int i) (.tuple [.int a, .int b]) = some (([a, b].map PyData.int).any fun z => PyData.eqv z (.int i)) := by
    show (if flat (.int i) = true ∧ ([a, b].map PyData.int).all flat = true then some (([a, b].map PyData.int).any fun z => PyData.eqv z (.int i)) else none) = _
    rw [if_pos ⟨rfl, shaped_flat _⟩]
  rw [e, any_int]
  simp
/-! ### what is no choice -/
end Pd

/-! rows, changes, leads. -/
namespace Pd
open PySem PySem.Spec PyProof.Rows L2
def spaced : List D → Bool
  | .int i :: .int j :: r => decide (i + 1 < j) && spaced (.int j :: r)
  | _ => true
def couldCh (b : Int) : D → Bool
  | .tuple ds => ds.all (isIx (b - 1)) && spaced ds
  | _ => false
def ltP1 : D → D
  | .tuple [.int i, .int j] => .bool (decide (i + 1 < j))
  | _ => .none
theorem zip_mem : ∀ {xs ys : List D} {d : D}, d ∈ zipD xs ys → ∃ x y, x ∈ xs ∧ y ∈ ys ∧ d = .tuple [x, y]
  | [], _, _, h => by cases h
  | _ :: _, [], _, h => by cases h
  | x :: xs, y :: ys, d, h => by
    rcases List.mem_cons.mp h with rfl | h
    · exact ⟨x, y, List.mem_cons_self .., List.mem_cons_self .., rfl⟩
    · obtain ⟨a, b, h1, h2, h3⟩ := zip_mem h
      exact ⟨a, b, List.mem_cons_of_mem _ h1, List.mem_cons_of_mem _ h2, h3⟩
theorem zip_spaced : ∀ ns : List Int, uAll (.list ((zipD (ns.map .int) ((ns.map PyData.int).drop 1)).map ltP1)) = some (.bool (spaced (ns.map .int)))
  | [] => rfl
  | [n] => rfl
  | n :: m :: r => by
    have ih := zip_spaced (m :: r)
    simp only [List.map_cons, List.drop_succ_cons, List.drop_zero, zipD, ltP1, uAll, boolsD, spaced] at ih ⊢
    cases hb : boolsD (List.map ltP1 (zipD (PyData.int m :: List.map PyData.int r) (List.map PyData.int r))) with
    | none =>
      rw [hb] at ih
      cases ih
    | some bs =>
      rw [hb] at ih
      simp only [Option.map_some, Option.some.injEq, PyData.bool.injEq] at ih
      simp only [Option.map_some, List.all_cons, ih]
theorem cut1 (ds : List D) : Pd.cutD ds (some 1) none = ds.drop 1 := by
  unfold Pd.cutD
  cases ds with
  | nil => rfl
  | cons d r =>
    have e1 : HT.sIx (d :: r).length 0 (some 1) = 1 := by
      show (if (1 : Int) < 0 then ((1 : Int) + ((d :: r).length : Int)).toNat else min (1 : Int).toNat (d :: r).length) = 1
      rw [if_neg (by omega)]
      simp only [List.length_cons]
      omega
    have e2 : HT.sIx (d :: r).length (d :: r).length none = (d :: r).length := rfl
    rw [e1, e2]
    exact List.take_of_length_le (by rw [List.length_drop]; exact Nat.le_refl _)
theorem shaped_ones : ∀ l : List D, SeqAt.shaped (.list (l.map fun _ => .int 1)) = true
  | [] => rfl
  | _ :: r => shaped_ones r
theorem eq_ones (l : List D) : cEq (.list (l.map fun _ => .int 1)) (.list []) = some l.isEmpty := by
  unfold cEq
  rw [if_pos ⟨shaped_ones l, rfl⟩]
  cases l <;> rfl
theorem none_bad (p : D → Bool) : ∀ ds : List D, (ds.filter p).isEmpty = ds.all fun d => !p d
  | [] => rfl
  | d :: r => by
    rw [List.filter_cons, List.all_cons, ← none_bad p r]
    cases p d <;> simp
def isWh (lo hi : Int) : D → Bool
  | .int i => decide (lo ≤ i) && decide (i ≤ hi)
  | _ => false
def areWh (lo hi : Int) : D → Bool
  | .tuple ds => ds.all (isWh lo hi)
  | _ => false
theorem bad_eq (lo hi : Int) (v d : D) (hd : ND0 d) : fOrT (fB (f1 (uIs "bool") (fVar 3))) (fOrT (fNotT (fB (f1 (uIs "int") (fVar 3)))) (fNotT (fChainT cLe cLe (fVar 1) (fVar 3) (fVar 2)))) [.sh v, .sh (.int lo), .sh (.int hi), .sh d] =
    some (!isWh lo hi d, [.sh v, .sh (.int lo), .sh (.int hi), .sh d]) := by
  cases d with
  | int i =>
    have e1 : uIs "bool" (.int i) = some (.bool false) := by rfl
    have e2 : uIs "int" (.int i) = some (.bool true) := by rfl
    by_cases h : lo ≤ i
    · by_cases h2 : i ≤ hi
      · simp [fOrT, fB, f1, fVar, e1, e2, fNotT, fChainT, fChain, cLe, isWh, h, h2]
      · simp [fOrT, fB, f1, fVar, e1, e2, fNotT, fChainT, fChain, cLe, isWh, h, h2]
    · simp [fOrT, fB, f1, fVar, e1, e2, fNotT, fChainT, fChain, cLe, isWh, h]
  | dict kvs => exact absurd rfl (hd kvs)
  | _ => rfl
theorem at_int {ns : List Int} {k : Nat} (h : k < ns.length) : ixD (.tuple (ns.map .int)) (.int (k : Nat)) = some (.int (ns.getD k 0)) := by
  show atI (ns.map PyData.int) ((k : Nat) : Int) = _
  refine atI_nat ?_
  rw [List.getElem?_map, List.getElem?_eq_getElem h, List.getD_eq_getElem?_getD, List.getElem?_eq_getElem h]
  rfl
def badAt (ns : List Int) : D → Bool
  | .int k => decide (ns.getD k.toNat 0 < ns.getD (k.toNat - 1) 0 + 2)
  | _ => false
theorem spaced_range : ∀ ns : List Int, ((List.range (ns.length - 1)).all fun i => !decide (ns.getD (1 + i) 0 < ns.getD i 0 + 2)) = spaced (ns.map .int)
  | [] => rfl
  | [n] => rfl
  | n :: m :: r => by
    have ih := spaced_range (m :: r)
    have e : (n :: m :: r).length - 1 = r.length + 1 := by simp
    have e' : (m :: r).length - 1 = r.length := by simp
    rw [e'] at ih
    rw [e, List.range_succ_eq_map, List.all_cons, List.all_map]
    simp only [List.map_cons, spaced]
    congr 1
    · by_cases h : n + 1 < m
      · have h2 : ¬ (m < n + 2) := by omega
        simp [h, h2]
      · have h2 : m < n + 2 := by omega
        simp [h, h2]
theorem bad_range (ns : List Int) : ((rgD 1 (ns.length : Nat)).filter (badAt ns)).isEmpty = spaced (ns.map .int) := by
  rw [none_bad, ← spaced_range]
  unfold rgD
  rw [List.all_map]
  have e : ((ns.length : Int) - 1).toNat = ns.length - 1 := by omega
  rw [e]
  congr 1
  funext i
  show (!badAt ns (.int (1 + (i : Nat)))) = _
  have e1 : (1 + (i : Int)).toNat = 1 + i := by omega
  have e2 : 1 + i - 1 = i := by omega
  simp only [badAt, e1, e2]
def isCh (b : Int) : D → Bool
  | .tuple ds => ds.all (isWh 0 (b - 2)) && spaced ds
  | _ => false
theorem wh_ints {lo hi : Int} : ∀ {ds : List D}, ds.all (isWh lo hi) = true → ∃ ns : List Int, ds = ns.map .int
  | [], _ => ⟨[], rfl⟩
  | d :: r, h => by
    rw [List.all_cons, Bool.and_eq_true] at h
    obtain ⟨ns, e⟩ := wh_ints h.2
    have hd := h.1
    cases d <;> first | cases hd | skip
    rename_i i
    exact ⟨i :: ns, by rw [e]; rfl⟩
theorem ch_same (b : Int) (d : D) : couldCh b d = isCh b d := by
  cases d <;> first | rfl | skip
  rename_i ds
  show (ds.all (isIx (b - 1)) && spaced ds) = (ds.all (isWh 0 (b - 2)) && spaced ds)
  congr 1
  congr 1
  funext d
  cases d <;> first | rfl | skip
  rename_i i
  show (decide (0 ≤ i) && decide (i < b - 1)) = (decide (0 ≤ i) && decide (i ≤ b - 2))
  congr 1
  exact decide_eq_decide.mpr (by omega)
def couldLead (b : Int) : D → Bool
  | .tuple ds => decide (1 ≤ ds.length) && decide (ds.length ≤ 24) && ds.all (couldCh b)
  | _ => false
def swp {α : Type} : List α → Nat → List α
  | [], _ => []
  | x :: r, 0 => match r with
    | y :: s => y :: x :: s
    | [] => [x]
  | x :: r, p + 1 => x :: swp r p
def act {α : Type} (l : List α) : List Int → List α
  | [] => l
  | p :: c => act (swp l p.toNat) c
theorem swp_map {α β : Type} (f : α → β) : ∀ (l : List α) (p : Nat), swp (l.map f) p = (swp l p).map f
  | [], _ => rfl
  | [_], 0 => rfl
  | _ :: _ :: _, 0 => rfl
  | x :: r, p + 1 => by
    show f x :: swp (r.map f) p = _
    rw [swp_map f r p]
    rfl
theorem swp_perm {α : Type} : ∀ (l : List α) (p : Nat), (swp l p).Perm l
  | [], _ => .refl _
  | [_], 0 => .refl _
  | x :: y :: r, 0 => .swap x y r
  | x :: r, p + 1 => (swp_perm r p).cons x
theorem act_map {α β : Type} (f : α → β) : ∀ (c : List Int) (l : List α), act (l.map f) c = (act l c).map f
  | [], _ => rfl
  | p :: c, l => by
    show act (swp (l.map f) p.toNat) c = _
    rw [swp_map, act_map f c]
    rfl
theorem act_perm {α : Type} : ∀ (c : List Int) (l : List α), (act l c).Perm l
  | [], l => .refl _
  | p :: c, l => (act_perm c _).trans (swp_perm l _)
def chs : Nat → List (List Int)
  | 2 => [[], [0]]
  | 3 => [[], [0], [1]]
  | 4 => [[], [0], [0, 2], [1], [2]]
  | 5 => [[], [0], [0, 2], [0, 3], [1], [1, 3], [2], [3]]
  | 6 => [[], [0], [0, 2], [0, 2, 4], [0, 3], [0, 4], [1], [1, 3], [1, 4], [2], [2, 4], [3], [4]]
  | _ => []
theorem act_inv {α : Type} {b : Nat} (hb : isB b) {c : List Int} (hc : c ∈ chs b) {l : List α} (hl : l.length = b) : act (act l c) c = l := by
  rcases hb with rfl | rfl | rfl | rfl | rfl
  · match l, hl with
    | [x0, x1], _ =>
      simp only [chs, List.mem_cons, List.not_mem_nil, or_false] at hc
      rcases hc with rfl | rfl <;> rfl
  · match l, hl with
    | [x0, x1, x2], _ =>
      simp only [chs, List.mem_cons, List.not_mem_nil, or_false] at hc
      rcases hc with rfl | rfl | rfl <;> rfl
  · match l, hl with
    | [x0, x1, x2, x3], _ =>
      simp only [chs, List.mem_cons, List.not_mem_nil, or_false] at hc
      rcases hc with rfl | rfl | rfl | rfl | rfl <;> rfl
  · match l, hl with
    | [x0, x1, x2, x3, x4], _ =>
      simp only [chs, List.mem_cons, List.not_mem_nil, or_false] at hc
      rcases hc with rfl | rfl | rfl | rfl | rfl | rfl | rfl | rfl <;> rfl
  · match l, hl with
    | [x0, x1, x2, x3, x4, x5], _ =>
      simp only [chs, List.mem_cons, List.not_mem_nil, or_false] at hc
      rcases hc with rfl | rfl | rfl | rfl | rfl | rfl | rfl | rfl | rfl | rfl | rfl | rfl | rfl <;> rfl
def runs (r : List Int) : List (List Int) → List (List Int)
  | [] => []
  | c :: L => act r c :: runs (act r c) L
def ledTo (r : List Int) : List (List Int) → List Int
  | [] => r
  | c :: L => ledTo (act r c) L
theorem act_len {α : Type} (c : List Int) (l : List α) : (act l c).length = l.length := (act_perm c l).length_eq
theorem runs_len : ∀ (L : List (List Int)) (r : List Int), (runs r L).length = L.length
  | [], _ => rfl
  | c :: L, r => by
    simp only [runs, List.length_cons, runs_len L]
theorem last_at (A : List D) (x : D) : ixD (.list (A ++ [x])) (.int (-1)) = some x := by
  show atI (A ++ [x]) (-1) = some x
  have e : ixN (A ++ [x]).length (-1) = some A.length := by
    unfold ixN
    rw [List.length_append, List.length_singleton, if_neg (by omega)]
    rw [if_pos (by omega)]
    congr 1
    omega
  unfold atI
  rw [e]
  show (A ++ [x])[A.length]? = some x
  rw [List.getElem?_append_right (Nat.le_refl _), Nat.sub_self]
  rfl
def ldD (L : List (List Int)) : D := .tuple (L.map tI)
def rwD (R : List (List Int)) : D := .list (R.map tI)
theorem nd2_lead (L : List (List Int)) (h : L.length ≤ 1000) (hc : ∀ c ∈ L, c.length ≤ 1000) : ND2 (ldD L) := by
  refine ⟨fun _ h => (by cases h), fun ds e => ?_⟩
  cases e
  refine ⟨by rw [List.length_map]; omega, fun d hd => ?_⟩
  obtain ⟨c, hm, rfl⟩ := List.mem_map.mp hd
  exact nd1_tI c (by have := hc c hm; omega)
theorem ch_ok {b : Nat} (hb : isB b) {c : List Int} (hc : c ∈ chs b) : couldCh (b : Int) (tI c) = true ∧ c.length ≤ 3 := by
  rcases hb with rfl | rfl | rfl | rfl | rfl <;> simp only [chs, List.mem_cons, List.not_mem_nil, or_false] at hc
  · rcases hc with rfl | rfl <;> decide
  · rcases hc with rfl | rfl | rfl <;> decide
  · rcases hc with rfl | rfl | rfl | rfl | rfl <;> decide
  · rcases hc with rfl | rfl | rfl | rfl | rfl | rfl | rfl | rfl <;> decide
  · rcases hc with rfl | rfl | rfl | rfl | rfl | rfl | rfl | rfl | rfl | rfl | rfl | rfl | rfl <;> decide
/-- a lead of so many bells -/
structure Ld (b : Nat) (L : List (List Int)) : Prop where
  ch : ∀ c ∈ L, c ∈ chs b
  lo : 1 ≤ L.length
  hi : L.length ≤ 24
theorem lead_could {b : Nat} (hb : isB b) {L : List (List Int)} (h : Ld b L) : couldLead (b : Int) (ldD L) = true := by
  show (decide (1 ≤ (L.map tI).length) && decide ((L.map tI).length ≤ 24) && (L.map tI).all (couldCh b)) = true
  rw [List.length_map]
  have h1 := h.lo
  have h2 := h.hi
  have h3 : (L.map tI).all (couldCh b) = true := List.all_eq_true.mpr fun d hd => by
    obtain ⟨c, hm, rfl⟩ := List.mem_map.mp hd
    exact (ch_ok hb (h.ch c hm)).1
  simp [h1, h2, h3]
theorem lead_nd {b : Nat} (hb : isB b) {L : List (List Int)} (h : Ld b L) : ND2 (ldD L) := nd2_lead L (by have := h.hi; omega) fun c hm => by
  have := (ch_ok hb (h.ch c hm)).2
  omega
theorem len_row {b : Nat} {r : List Int} (hr : r.Perm (rnds b)) : uLen (tI r) = some (.int (b : Nat)) := by
  show some (PyData.int ((r.map PyData.int).length : Nat)) = _
  rw [List.length_map, hr.length_eq, rnds_len]
theorem runs_last : ∀ (L : List (List Int)) (r : List Int), L ≠ [] → ∃ A, runs r L = A ++ [ledTo r L]
  | [], _, h => absurd rfl h
  | [c], r, _ => ⟨[], rfl⟩
  | c :: d :: L, r, _ => by
    obtain ⟨A, h⟩ := runs_last (d :: L) (act r c) (by simp)
    exact ⟨act r c :: A, by show act r c :: runs (act r c) (d :: L) = _; rw [h]; rfl⟩
theorem last_runs {L : List (List Int)} (r : List Int) (h : 1 ≤ L.length) : ixD (rwD (runs r L)) (.int (-1)) = some (tI (ledTo r L)) := by
  obtain ⟨A, e⟩ := runs_last L r (by intro z; rw [z] at h; simp at h)
  unfold rwD
  rw [e, List.map_append]
  exact last_at _ _
def joint (r s : List Int) : List Int := s.map fun k => r.getD k.toNat 0
theorem joint_rnds {b : Nat} {r : List Int} (hl : r.length = b) : joint r (rnds b) = r := by
  subst hl
  unfold joint rnds
  rw [List.map_map]
  apply List.ext_getElem?
  intro i
  rw [List.getElem?_map]
  by_cases h : i < r.length
  · rw [List.getElem?_range h, List.getElem?_eq_getElem h]
    show some (r.getD ((i : Int)).toNat 0) = _
    rw [Int.toNat_natCast, List.getD_eq_getElem?_getD, List.getElem?_eq_getElem h]
    rfl
  · rw [List.getElem?_eq_none (by rw [List.length_range]; omega), List.getElem?_eq_none (by omega)]
    rfl
theorem joint_act (r s : List Int) (c : List Int) : joint r (act s c) = act (joint r s) c := (act_map _ c s).symm
theorem joint_led (r : List Int) : ∀ (L : List (List Int)) (s : List Int), joint r (ledTo s L) = ledTo (joint r s) L
  | [], _ => rfl
  | c :: L, s => by
    show joint r (ledTo (act s c) L) = ledTo (act (joint r s) c) L
    rw [joint_led r L, joint_act]
theorem joint_runs (r : List Int) : ∀ (L : List (List Int)) (s : List Int), (runs s L).map (joint r) = runs (joint r s) L
  | [], _ => rfl
  | c :: L, s => by
    show joint r (act s c) :: (runs (act s c) L).map (joint r) = _
    rw [joint_runs r L, joint_act]
    rfl
theorem led_perm : ∀ (L : List (List Int)) (r : List Int), (ledTo r L).Perm r
  | [], _ => .refl _
  | c :: L, r => (led_perm L _).trans (act_perm c r)
theorem led_app : ∀ (L M : List (List Int)) (r : List Int), ledTo r (L ++ M) = ledTo (ledTo r L) M
  | [], _, _ => rfl
  | c :: L, M, r => led_app L M (act r c)
theorem led_back {b : Nat} (hb : isB b) : ∀ (L : List (List Int)) (r : List Int), (∀ c ∈ L, c ∈ chs b) → r.length = b → ledTo (ledTo r L) L.reverse = r
  | [], _, _, _ => rfl
  | c :: L, r, hc, hl => by
    rw [List.reverse_cons, led_app]
    show act (ledTo (ledTo (act r c) L) L.reverse) c = r
    rw [led_back hb L (act r c) (fun d hd => hc d (List.mem_cons_of_mem _ hd)) ((act_len c r).trans hl)]
    exact act_inv hb (hc c (List.mem_cons_self ..)) hl
def chs3 (b : Nat) : List D := ((chs b).tail.map tI) ++ (((chs b).tail.map tI) ++ ((chs b).tail.map tI)) ++ (chs b).map tI
end Pd

/-! all rows; dicts with rows as keys; roads. -/
namespace Pd
open PySem PySem.Spec PyProof.Rows L2
def insA (a : Int) : List Int → List (List Int)
  | [] => [[a]]
  | b :: r => (a :: b :: r) :: (insA a r).map (b :: ·)
def perms : List Int → List (List Int)
  | [] => [[]]
  | a :: r => (perms r).flatMap (insA a)
theorem insA_mem (a : Int) : ∀ s t : List Int, s ++ a :: t ∈ insA a (s ++ t)
  | [], [] => by simp [insA]
  | [], b :: t => by simp [insA]
  | b :: s, t => by
    rw [List.cons_append, List.cons_append, insA]
    exact List.mem_cons_of_mem _ (List.mem_map.mpr ⟨_, insA_mem a s t, rfl⟩)
theorem perms_mem : ∀ {l r : List Int}, r.Perm l → r ∈ perms l
  | [], r, h => by
    rw [List.perm_nil.mp h]
    exact List.mem_singleton.mpr rfl
  | a :: l, r, h => by
    obtain ⟨s, t, rfl⟩ := List.append_of_mem (h.mem_iff.mpr (List.mem_cons_self ..))
    have h2 : (s ++ t).Perm l := (List.perm_cons a).mp ((List.perm_middle).symm.trans h)
    rw [perms, List.mem_flatMap]
    exact ⟨_, perms_mem h2, insA_mem a s t⟩
theorem nodup_sub {α : Type} [DecidableEq α] : ∀ {l m : List α}, l.Nodup → (∀ x ∈ l, x ∈ m) → l.length ≤ m.length
  | [], m, _, _ => Nat.zero_le _
  | x :: l, m, nd, hs => by
    have hx := hs x (List.mem_cons_self ..)
    obtain ⟨h1, h2⟩ := List.nodup_cons.mp nd
    have ih := nodup_sub (l := l) (m := m.erase x) h2 (fun y hy => (List.mem_erase_of_ne (fun e : y = x => h1 (by rw [← e]; exact hy))).mpr (hs y (List.mem_cons_of_mem _ hy)))
    rw [List.length_erase_of_mem hx] at ih
    have := List.length_pos_of_mem hx
    rw [List.length_cons]
    omega
theorem rows_le {b : Nat} (hb : isB b) {R : List (List Int)} (nd : R.Nodup) (h : ∀ r ∈ R, r.Perm (rnds b)) : R.length ≤ 720 := by
  refine Nat.le_trans (nodup_sub nd fun r hr => perms_mem (h r hr)) ?_
  rcases hb with rfl | rfl | rfl | rfl | rfl <;> decide +kernel
/-! ### dicts -/
section
variable {α β : Type} [DecidableEq α] {kk : List (α × β)} {k : α} {v : β}
theorem valT_in (h : valT kk k = some v) : (k, v) ∈ kk := by
  unfold valT at h
  obtain ⟨p, hp, e⟩ := Option.map_eq_some_iff.mp h
  have h1 := List.mem_of_find?_eq_some hp
  have h2 := List.find?_some hp
  have h3 : p.1 = k := by simpa using h2
  rw [← h3, ← e]
  exact h1
theorem valT_key : (valT kk k).isSome = true ↔ k ∈ kk.map (·.1) := by
  rw [← valT_any, List.any_eq_true]
  constructor
  · rintro ⟨p, hp, e⟩
    exact List.mem_map.mpr ⟨p, hp, by simpa using e⟩
  · intro h
    obtain ⟨p, hp, e⟩ := List.mem_map.mp h
    exact ⟨p, hp, by simpa using e⟩
theorem valT_get (h : k ∈ kk.map (·.1)) : ∃ v, valT kk k = some v ∧ (k, v) ∈ kk := by
  obtain ⟨v, hv⟩ := Option.isSome_iff_exists.mp (valT_key.mpr h)
  exact ⟨v, hv, valT_in hv⟩
theorem valT_not (h : k ∉ kk.map (·.1)) : valT kk k = none := by
  cases hv : valT kk k with
  | none => rfl
  | some v => exact absurd (valT_key.mp (by rw [hv]; rfl)) h
theorem valT_mem (nd : (kk.map (·.1)).Nodup) (h : (k, v) ∈ kk) : valT kk k = some v := by
  induction kk with
  | nil => cases h
  | cons p r ih =>
    rw [List.map_cons, List.nodup_cons] at nd
    rw [valT_cons]
    rcases List.mem_cons.mp h with e | h
    · rw [← e, if_pos rfl]
    · have : p.1 ≠ k := fun e => nd.1 (by rw [e]; exact List.mem_map.mpr ⟨_, h, rfl⟩)
      rw [if_neg this]
      exact ih nd.2 h
theorem putT_keys (h : k ∈ kk.map (·.1)) : (putT kk k v).map (·.1) = kk.map (·.1) := by
  unfold putT
  rw [valT_any, valT_key.mpr h]
  simp only [if_true, List.map_map]
  refine List.map_congr_left fun p hp => ?_
  show (if p.1 = k then (p.1, v) else p).1 = p.1
  split <;> rfl
end
/-! ### roads -/
/-- the row to which a tuple of ways leads -/
def goes (W : List (List (List Int))) (r : List Int) (p : List Nat) : List Int := p.foldl (fun r k => ledTo r (W.getD k [])) r
theorem goes_snoc {W : List (List (List Int))} {r : List Int} {p : List Nat} {k : Nat} : goes W r (p ++ [k]) = ledTo (goes W r p) (W.getD k []) := by
  unfold goes
  rw [List.foldl_append]
  rfl
/-- the keys -/
def kys {α β : Type} (rr : List (α × β)) : List α := rr.map (·.1)
theorem kys_app {α β : Type} (rr : List (α × β)) (k : α) (v : β) : kys (rr ++ [(k, v)]) = kys rr ++ [k] := by simp [kys]
theorem kys_len {α β : Type} (rr : List (α × β)) : (kys rr).length = rr.length := by simp [kys]
theorem kys_key {α β : Type} [DecidableEq α] {kk : List (α × β)} {k : α} : (valT kk k).isSome = true ↔ k ∈ kys kk := valT_key
theorem kys_get {α β : Type} [DecidableEq α] {kk : List (α × β)} {k : α} (h : k ∈ kys kk) : ∃ v, valT kk k = some v ∧ (k, v) ∈ kk := valT_get h
theorem kys_not {α β : Type} [DecidableEq α] {kk : List (α × β)} {k : α} (h : k ∉ kys kk) : valT kk k = none := valT_not h
theorem kys_none {α β : Type} [DecidableEq α] {kk : List (α × β)} {k : α} (h : valT kk k = none) : k ∉ kys kk := fun z => by
  have := kys_key.mpr z
  rw [h] at this
  cases this
theorem kys_mem {α β : Type} {kk : List (α × β)} {k : α} {v : β} (h : (k, v) ∈ kk) : k ∈ kys kk := List.mem_map.mpr ⟨_, h, rfl⟩
structure RdOk (b : Nat) (W : List (List (List Int))) (rr : List (List Int × D)) : Prop where
  nd : (kys rr).Nodup
  pm : ∀ r ∈ kys rr, r.Perm (rnds b)
  ini : rnds b ∈ kys rr
  val : ∀ p ∈ rr, ∃ w : List Nat, p.2 = rD w ∧ w.length ≤ rr.length ∧ (∀ k ∈ w, k < W.length) ∧ goes W (rnds b) w = p.1
/-- .. closed -/
def RdCl (W : List (List (List Int))) (rr : List (List Int × D)) (P : List (List Int)) : Prop := ∀ r ∈ P, ∀ L ∈ W, ledTo r L ∈ kys rr
theorem RdOk.le {b : Nat} (hb : isB b) {W : List (List (List Int))} {rr : List (List Int × D)} (h : RdOk b W rr) : rr.length ≤ 720 := by
  have := rows_le hb h.nd h.pm
  rwa [kys_len] at this
theorem RdOk.add {b : Nat} {W : List (List (List Int))} {rr : List (List Int × D)} (h : RdOk b W rr) {r : List Int} {w : List Nat} {k : Nat} (hr : (r, rD w) ∈ rr) (hw : goes W (rnds b) w = r) (hl : ∀ j ∈ w, j < W.length) (wl : w.length ≤ rr.length) (hk : k < W.length) (hn : ledTo r (W.getD k []) ∉ kys rr) :
    RdOk b W (rr ++ [(ledTo r (W.getD k []), rD (w ++ [k]))]) where
  nd := by
    rw [kys_app, List.nodup_append]
    refine ⟨h.nd, by simp, fun a ha z hz e => ?_⟩
    simp at hz
    subst e
    rw [hz] at ha
    exact hn ha
  pm := fun x hx => by
    rw [kys_app, List.mem_append] at hx
    rcases hx with hx | hx
    · exact h.pm x hx
    · rw [List.mem_singleton.mp hx]
      exact (led_perm _ _).trans (h.pm r (kys_mem hr))
  ini := by
    rw [kys_app, List.mem_append]
    exact .inl h.ini
  val := fun p hp => by
    rcases List.mem_append.mp hp with hp | hp
    · obtain ⟨w', e1, e2, e3, e4⟩ := h.val p hp
      exact ⟨w', e1, by simp; omega, e3, e4⟩
    · rw [List.mem_singleton.mp hp]
      refine ⟨w ++ [k], rfl, by simp; omega, fun j hj => ?_, ?_⟩
      · rcases List.mem_append.mp hj with hj | hj
        · exact hl j hj
        · rw [List.mem_singleton.mp hj]
          exact hk
      · rw [goes_snoc, hw]
def wsD (W : List (List (List Int))) : D := .tuple (W.map ldD)
end Pd

/-! dicts made out of lists of pairs; sorted. -/
namespace Pd
open PySem PySem.Spec PyProof.Rows L2
section
variable {α β : Type} [DecidableEq α]
def mkT (kk l : List (α × β)) : List (α × β) := l.foldl (fun acc p => putT acc p.1 p.2) kk
theorem mkT_app : ∀ (l kk : List (α × β)), (kys (kk ++ l)).Nodup → mkT kk l = kk ++ l
  | [], kk, _ => by simp [mkT]
  | p :: l, kk, h => by
    have e : mkT kk (p :: l) = mkT (putT kk p.1 p.2) l := rfl
    have hn : p.1 ∉ kys kk := fun z => by
      unfold kys at h z
      rw [List.map_append, List.nodup_append] at h
      exact h.2.2 _ z p.1 (by simp) rfl
    rw [e, putT_new (kys_not hn), mkT_app l _ (by simpa using h)]
    simp
theorem mkT_nodup {l : List (α × β)} (h : (kys l).Nodup) : mkT [] l = l := by
  rw [mkT_app l [] (by simpa using h)]
  rfl
theorem mkT_key : ∀ (l kk : List (α × β)) (k : α), k ∈ kys (mkT kk l) ↔ k ∈ kys kk ∨ k ∈ kys l
  | [], kk, k => by simp [mkT, kys]
  | p :: l, kk, k => by
    have e : mkT kk (p :: l) = mkT (putT kk p.1 p.2) l := rfl
    rw [e, mkT_key l, ← kys_key (kk := putT kk p.1 p.2), valT_put]
    by_cases h : k = p.1
    · simp [h, kys]
    · rw [if_neg h, kys_key]
      simp [kys, h]
theorem mkT_len : ∀ (l kk : List (α × β)), (mkT kk l).length ≤ kk.length + l.length
  | [], kk => by simp [mkT]
  | p :: l, kk => by
    have e : mkT kk (p :: l) = mkT (putT kk p.1 p.2) l := rfl
    have := mkT_len l (putT kk p.1 p.2)
    have := putT_len kk p.1 p.2
    rw [e, List.length_cons]
    omega
end
theorem mkI_mkT (kk l : List (Int × D)) : mkI kk l = mkT kk l := rfl
/-- numbers of the things of a list -/
theorem valT_idx {α β : Type} [DecidableEq α] [BEq α] [LawfulBEq α] (f : Nat → β) : ∀ (l : List α) (i : Nat) (x : α), x ∈ l → valT ((l.zipIdx i).map fun p => (p.1, f p.2)) x = some (f (i + l.idxOf x))
  | [], _, x, h => by cases h
  | a :: l, i, x, h => by
    rw [List.zipIdx_cons, List.map_cons, valT_cons]
    by_cases e : a = x
    · subst e
      simp
    · have hm : x ∈ l := (List.mem_cons.mp h).resolve_left fun z => e z.symm
      simp only [if_neg e]
      have e2 : (a :: l).idxOf x = l.idxOf x + 1 := by
        rw [List.idxOf_cons]
        have : (a == x) = false := by simpa using e
        rw [this]
        rfl
      rw [valT_idx f l (i + 1) x hm, e2]
      congr 2
      omega
theorem kys_idx {α β : Type} (f : Nat → β) (l : List α) (i : Nat) : kys ((l.zipIdx i).map fun p => (p.1, f p.2)) = l := by
  unfold kys
  rw [List.map_map]
  show (l.zipIdx i).map Prod.fst = l
  simp
/-! ### rows as keys -/
theorem pairs_row : ∀ l : List (List Int × D), pairsT (l.map fun p => .tuple [tI p.1, p.2]) = some (l.map fun p => ((p.1.map Sum.inl : List Key), p.2))
  | [] => rfl
  | (r, d) :: l => by
    rw [List.map_cons]
    simp only [pairsT, keysOf_tI, pairs_row l, Option.map_some, List.map_cons]
theorem inl_map_inj {a b : List Int} : (a.map Sum.inl : List Key) = b.map Sum.inl ↔ a = b := ⟨inl_inj, fun e => by rw [e]⟩
theorem put_inlR (kk : List (List Int × D)) (k : List Int) (v : D) : putT (kk.map fun p => ((p.1.map Sum.inl : List Key), p.2)) (k.map Sum.inl) v = (putT kk k v).map fun p => ((p.1.map Sum.inl : List Key), p.2) := by
  unfold putT
  have e : ((kk.map fun p => ((p.1.map Sum.inl : List Key), p.2)).any fun p => decide (p.1 = k.map Sum.inl)) = kk.any fun p => decide (p.1 = k) := by
    rw [List.any_map]
    congr 1
    funext p
    show decide ((p.1.map Sum.inl : List Key) = k.map Sum.inl) = _
    rw [decide_eq_decide]
    exact inl_map_inj
  rw [e]
  split
  · rw [List.map_map, List.map_map]
    refine List.map_congr_left fun p _ => ?_
    show (if (p.1.map Sum.inl : List Key) = k.map Sum.inl then _ else _) = _
    by_cases h : p.1 = k
    · simp [h]
    · rw [if_neg (fun z => h (inl_inj z))]
      simp [h]
  · simp
theorem mrg_inlR : ∀ (l kk : List (List Int × D)), mrgTT (kk.map fun p => ((p.1.map Sum.inl : List Key), p.2)) (l.map fun p => ((p.1.map Sum.inl : List Key), p.2)) = (mkT kk l).map fun p => ((p.1.map Sum.inl : List Key), p.2)
  | [], _ => rfl
  | p :: l, kk => by
    have e : mkT kk (p :: l) = mkT (putT kk p.1 p.2) l := rfl
    rw [List.map_cons, e, ← mrg_inlR l, ← put_inlR]
    rfl
theorem tD_inlR (kk : List (List Int × D)) : tD (kk.map fun p => ((p.1.map Sum.inl : List Key), p.2)) = dR kk := by
  unfold tD dR
  rw [List.map_map]
  congr 1
  refine List.map_congr_left fun p _ => ?_
  show (keysD (p.1.map Sum.inl), p.2) = _
  rw [keysD, List.map_map]
  rfl
def mkdTK (Q : Ob × DE → Prop) : D × DE → Prop
  | (.list ds, δ) => Wp (pairsT ds) fun l => Q (.dct (tD (mrgTT [] l)), δ)
  | _ => False
@[simp] theorem mkdTK_l {Q : Ob × DE → Prop} {ds : List D} {δ : DE} : mkdTK Q (.list ds, δ) ↔ Wp (pairsT ds) fun l => Q (.dct (tD (mrgTT [] l)), δ) := Iff.rfl
@[simp] theorem wp_oDictT {f : M} {δ : DE} {Q : Ob × DE → Prop} : Wp (oDictT f δ) Q ↔ Wp (f δ) (mkdTK Q) := by
  unfold oDictT
  rcases f δ with _ | ⟨x, δ1⟩
  · simp
  cases x <;> simp [mkdTK]
theorem dR_of (l : List (List Int × D)) : tD (mrgTT [] (l.map fun p => ((p.1.map Sum.inl : List Key), p.2))) = dR (mkT [] l) := by
  have := mrg_inlR l []
  rw [List.map_nil] at this
  rw [this, tD_inlR]
theorem w_dictR {l : List (List Int × D)} {δ : DE} {Q : Ob × DE → Prop} (q : Q (.dct (dR (mkT [] l)), δ)) : mkdTK Q (.list (l.map fun p => .tuple [tI p.1, p.2]), δ) := by
  rw [mkdTK_l, pairs_row]
  simp only [wp_some]
  have := mrg_inlR l []
  rw [List.map_nil] at this
  rw [this, tD_inlR]
  exact q
theorem kI_of (l : List (Int × D)) : kD (mrgT [] (l.map fun p => ((Sum.inl p.1 : Key), p.2))) = dI (mkT [] l) := by
  have := mrg_inl l []
  rw [List.map_nil] at this
  rw [this, kD_inl]
  rfl
/-! ### sorted -/
theorem tups_tI : ∀ nss : List (List Int), tupsD (nss.map tI) = some nss
  | [] => rfl
  | ns :: r => by
    rw [List.map_cons]
    show (match intsD (ns.map .int), tupsD (r.map tI) with
      | some ns, some nss => some (ns :: nss)
      | _, _ => none) = _
    rw [ints_ok, tups_tI r]
@[simp] theorem sort3_i {ns : List Int} : uSort3 (.list (ns.map .int)) = some (.list ((srt leI ns).map .int)) := by
  have : uSorted (.list (ns.map PyData.int)) = some (.list ((srt leI ns).map .int)) := by
    unfold uSorted
    simp only [ints_ok]
  simp only [uSort3, uSort2, this]
@[simp] theorem sort3_ti {ns : List Int} : uSort3 (tI ns) = some (.list ((srt leI ns).map .int)) := by
  have : uSorted (tI ns) = some (.list ((srt leI ns).map .int)) := by
    unfold uSorted tI
    simp only [ints_ok]
  simp only [uSort3, uSort2, this]
theorem sort3_t {nss : List (List Int)} (h : ∀ ns ∈ nss, ns ≠ []) : uSort3 (.list (nss.map tI)) = some (.list ((srt leT nss).map tI)) := by
  cases nss with
  | nil => rfl
  | cons ns r =>
    obtain ⟨m, ms, e⟩ := List.exists_cons_of_ne_nil (h ns (List.mem_cons_self ..))
    have hI : intsD ((ns :: r).map tI) = none := rfl
    have h1 : uSorted (.list ((ns :: r).map tI)) = none := by
      unfold uSorted
      simp only [hI, tups_tI]
      rw [e]
    have h2 : ((ns :: r).all fun ns => !ns.isEmpty) = true := by
      rw [List.all_eq_true]
      intro x hx
      have := h x hx
      cases x with
      | nil => exact absurd rfl this
      | cons _ _ => rfl
    have h3 : uSort2 (.list ((ns :: r).map tI)) = some (.list ((srt leT (ns :: r)).map tI)) := by
      unfold uSort2
      simp only [h1, tups_tI, Option.bind_some, h2, if_true]
    simp only [uSort3, h3]
theorem sort3_dR {kk : List (List Int × D)} (h : ∀ ns ∈ kys kk, ns ≠ []) : uSort3 (.dict (dR kk)) = some (.list ((srt leT (kys kk)).map tI)) := by
  have h1 : uSort2 (.dict (dR kk)) = none := rfl
  have h2 : dictTs (.dict (dR kk)) = some (kys kk) := by
    have : ((kk.map fun p => (tI p.1, p.2)).map fun p => p.1) = (kys kk).map tI := by
      unfold kys
      rw [List.map_map, List.map_map]
      rfl
    show tupsD ((kk.map fun p => (tI p.1, p.2)).map fun p => p.1) = _
    rw [this, tups_tI]
  have h3 : ((kys kk).all fun ns => !ns.isEmpty) = true := by
    rw [List.all_eq_true]
    intro x hx
    have := h x hx
    cases x with
    | nil => exact absurd rfl this
    | cons _ _ => rfl
  simp only [uSort3, h1, h2, Option.bind_some, h3, if_true]
end Pd

/-! groups of rows, their tables. -/
namespace Pd
open PySem PySem.Spec PyProof.Rows L2
def tabOf (W : List (List (List Int))) (R : List (List Int)) : List (List Int) := R.map fun r => W.map fun L => ((R.idxOf (ledTo r L) : Nat) : Int)
/-- the rows of a group, in order -/
structure Gp (b : Nat) (W : List (List (List Int))) (R : List (List Int)) : Prop where
  nd : R.Nodup
  pm : ∀ r ∈ R, r.Perm (rnds b)
  ini : rnds b ∈ R
  cl : ∀ r ∈ R, ∀ L ∈ W, ledTo r L ∈ R
  way : ∀ r ∈ R, ∃ w : List Nat, (∀ k ∈ w, k < W.length) ∧ goes W (rnds b) w = r
  le : R.length ≤ 720
  sor : R.Pairwise (leT · ·)
theorem gp_of {b : Nat} (hb : isB b) {W : List (List (List Int))} {rr : List (List Int × D)} (h : RdOk b W rr) (c : RdCl W rr (kys rr)) : Gp b W (srt leT (kys rr)) where
  nd := (srt_perm (le := leT) _).nodup_iff.mpr h.nd
  pm := fun r hr => h.pm r ((srt_perm (le := leT) _).mem_iff.mp hr)
  ini := (srt_perm (le := leT) _).mem_iff.mpr h.ini
  cl := fun r hr L hL => (srt_perm (le := leT) _).mem_iff.mpr (c r ((srt_perm (le := leT) _).mem_iff.mp hr) L hL)
  way := fun r hr => by
    obtain ⟨v, _, hm⟩ := kys_get ((srt_perm (le := leT) _).mem_iff.mp hr)
    obtain ⟨w, _, _, e3, e4⟩ := h.val _ hm
    exact ⟨w, e3, e4⟩
  le := by
    rw [(srt_perm (le := leT) _).length_eq, kys_len]
    exact h.le hb
  sor := srt_sorted leT_tot leT_tr _
theorem led_inj {b : Nat} (hb : isB b) {L : List (List Int)} (hc : ∀ c ∈ L, c ∈ chs b) {r s : List Int} (hr : r.length = b) (hs : s.length = b) (e : ledTo r L = ledTo s L) : r = s := by
  rw [← led_back hb L r hc hr, e, led_back hb L s hc hs]
theorem nodup_map_on {α β : Type} {f : α → β} : ∀ {l : List α}, l.Nodup → (∀ x ∈ l, ∀ y ∈ l, f x = f y → x = y) → (l.map f).Nodup
  | [], _, _ => by simp
  | a :: l, h, hi => by
    rw [List.map_cons, List.nodup_cons]
    obtain ⟨h1, h2⟩ := List.nodup_cons.mp h
    refine ⟨fun z => ?_, nodup_map_on h2 fun x hx y hy => hi x (List.mem_cons_of_mem _ hx) y (List.mem_cons_of_mem _ hy)⟩
    obtain ⟨x, hx, e⟩ := List.mem_map.mp z
    have := hi x (List.mem_cons_of_mem _ hx) a (List.mem_cons_self ..) e
    exact h1 (by rw [← this]; exact hx)
theorem idxOf_inj {α : Type} [BEq α] [LawfulBEq α] {l : List α} {x y : α} (hx : x ∈ l) (hy : y ∈ l) (e : l.idxOf x = l.idxOf y) : x = y := by
  have h1 := List.getElem_idxOf (List.idxOf_lt_length_iff.mpr hx)
  have h2 := List.getElem_idxOf (List.idxOf_lt_length_iff.mpr hy)
  rw [← h1, ← h2]
  simp only [e]
theorem Gp.len {b : Nat} {W : List (List (List Int))} {R : List (List Int)} (g : Gp b W R) : 1 ≤ R.length := List.length_pos_of_mem g.ini
theorem Gp.rl {b : Nat} {W : List (List (List Int))} {R : List (List Int)} (g : Gp b W R) {r : List Int} (h : r ∈ R) : r.length = b := by rw [(g.pm r h).length_eq, rnds_len]
theorem tb_tabOf {b : Nat} (hb : isB b) {W : List (List (List Int))} (hW : ∀ L ∈ W, Ld b L) (hw : W.length ≤ 6) (hw1 : 1 ≤ W.length) {R : List (List Int)} (g : Gp b W R) : Tb (tabOf W R) R.length W.length where
  n1 := g.len
  n2 := g.le
  w1 := hw1
  w2 := hw
  len := by simp [tabOf]
  wid := fun r hr => by
    obtain ⟨x, _, rfl⟩ := List.mem_map.mp hr
    simp
  ent := fun r hr i hi => by
    obtain ⟨x, hx, rfl⟩ := List.mem_map.mp hr
    obtain ⟨L, hL, rfl⟩ := List.mem_map.mp hi
    have := List.idxOf_lt_length_iff.mpr (g.cl x hx L hL)
    omega
  nod := fun k hk => by
    have e : col (tabOf W R) k = R.map fun r => ((R.idxOf (ledTo r (W.getD k [])) : Nat) : Int) := by
      unfold col tabOf
      rw [List.map_map]
      refine List.map_congr_left fun r _ => ?_
      show (W.map fun L => ((R.idxOf (ledTo r L) : Nat) : Int)).getD k 0 = _
      rw [List.getD_eq_getElem?_getD, List.getElem?_map, List.getD_eq_getElem?_getD, List.getElem?_eq_getElem hk]
      rfl
    rw [e]
    have hm : W.getD k [] ∈ W := by
      rw [List.getD_eq_getElem?_getD, List.getElem?_eq_getElem hk]
      exact List.getElem_mem _
    refine nodup_map_on g.nd fun x hx y hy q => ?_
    have q2 : R.idxOf (ledTo x (W.getD k [])) = R.idxOf (ledTo y (W.getD k [])) := Int.ofNat.inj q
    exact led_inj hb (hW _ hm).ch (g.rl hx) (g.rl hy) (idxOf_inj (g.cl x hx _ hm) (g.cl y hy _ hm) q2)
def five : List (List (List Int)) := [[[0, 2]], [[1, 3]], [[0, 2], [1, 3]], [[1, 3], [0, 2]], [[]], [[0, 2], [1, 3], [0, 2]]]
def six : List (List (List Int)) := [[[0, 2, 4]], [[1, 3]], [[0, 2, 4], [1, 3]], [[]], [[1, 3], [0, 2, 4], [1, 3]]]
/-- ways that are drawn so that their groups have few rows -/
structure Few (b : Nat) (W : List (List (List Int))) : Prop where
  w1 : 1 ≤ W.length
  w4 : W.length ≤ 4
  few : b ≤ 4 ∨ (b = 5 ∧ ∀ L ∈ W, L ∈ five) ∨ (b = 6 ∧ ∀ L ∈ W, L ∈ six)
theorem wp_seqOf {fs gs : MS} {δ δ2 : DE} {Q : Out → Prop} (e : fs δ = some (.nx δ2)) (q : Wp (gs δ2) Q) : Wp (sSeq fs gs δ) Q := wp_sSeq.mpr (wp_of_eq e q)
theorem rg_ok {k : Int} (h0 : 0 ≤ k) (h : k ≤ 99999) : rgOk 0 k = true := by
  unfold rgOk
  simp
  omega
theorem rg_len {k : Nat} : (rgD 0 (k : Int)).length = k := by simp [rgD]
theorem rg_len1 {k : Nat} : (rgD 0 (1 + (k : Int))).length = 1 + k := by
  rw [show (1 : Int) + (k : Int) = ((1 + k : Nat) : Int) by omega, rg_len]
theorem five_ld : ∀ L ∈ five, Ld 5 L := by
  intro L hL
  simp only [five, List.mem_cons, List.not_mem_nil, or_false] at hL
  rcases hL with rfl | rfl | rfl | rfl | rfl | rfl <;> exact ⟨by decide, by decide, by decide⟩
theorem six_ld : ∀ L ∈ six, Ld 6 L := by
  intro L hL
  simp only [six, List.mem_cons, List.not_mem_nil, or_false] at hL
  rcases hL with rfl | rfl | rfl | rfl | rfl <;> exact ⟨by decide, by decide, by decide⟩
/-- a list of whole numbers -/
def lsD (p : List Int) : D := .list (p.map .int)
@[simp] theorem ht_i {i : Int} : ht (.int i) = 0 := by simp [ht]
@[simp] theorem ht_b {i : Bool} : ht (.bool i) = 0 := by simp [ht]
@[simp] theorem ht_n : ht .none = 0 := by simp [ht]
@[simp] theorem hts_nil : hts [] = 0 := rfl
@[simp] theorem hts_cons {d : D} {r : List D} : hts (d :: r) = max (ht d) (hts r) := rfl
@[simp] theorem hts_ints {ns : List Int} : hts (ns.map .int) = 0 := by
  induction ns with
  | nil => rfl
  | cons a r ih => simp only [List.map_cons, hts, ih, ht_i]; rfl
theorem ht_ls {p : List Int} : ht (lsD p) = 1 := by rw [lsD, ht, hts_ints]
theorem hts_ls {W : List (List Int)} (h : W ≠ []) : 0 + 1 ≤ hts (W.map lsD) := by
  cases W with
  | nil => exact absurd rfl h
  | cons p r =>
    rw [List.map_cons, hts, ht_ls]
    omega
@[simp] theorem shn_ls {n : Nat} {p : List Int} : shn (n + 1) (lsD p) = true := by
  rw [lsD, shn_l, List.all_eq_true]
  intro x hx
  obtain ⟨i, _, rfl⟩ := List.mem_map.mp hx
  simp
/-- a slot that holds nothing of one's own -/
def nOw (s : Slot) : Prop := isOw [s] 0 = false
@[simp] theorem nOw_n : nOw .no := rfl
@[simp] theorem nOw_s {d : D} : nOw (.sh d) := rfl
theorem cleanS_self {n : Nat} {s : Slot} (h : nOw s) : cleanS n s s = true := by
  cases s with
  | ow _ => cases h
  | scr ns => simp [cleanS]
  | _ => rfl
end Pd

/-! followers of tables, their classes; choices that are the same throughout classes. -/
namespace Pd
open PySem PySem.Spec PyProof.Rows L2
variable {T : List (List Int)} {n w : Nat} {c f g : List Nat}
def und (r : List Int) : List Int := (List.range r.length).map fun (i : Nat) => ((r.idxOf (i : Int) : Nat) : Int)
theorem und_get {G : List Int} (hn : n ≤ 5000) (hp : G.Perm (rnds n)) {e : Int} (he : e ∈ rnds n) {Q : Int → Prop} (q : Q ((G.idxOf e : Nat) : Int)) : Wp (atI (und G) e) Q := by
  obtain ⟨e0, e1⟩ := rnds_mem he
  have gl := hp.length_eq.trans (rnds_len n)
  obtain ⟨k, rfl⟩ : ∃ k : Nat, e = k := ⟨e.toNat, by omega⟩
  refine wp_atI (k := k) (by simp [und]; omega) ?_
  simpa [und] using q
theorem dif_get {a : Nat} (hf : a < f.length) (hg : a < g.length) : (dif f g).getD a false = decide (f[a] ≠ g[a]) := by
  unfold dif
  rw [List.getD_eq_getElem?_getD, List.getElem?_map, List.getElem?_eq_getElem (by rw [List.length_zip]; omega), List.getElem_zip]
  rfl

def Pl (p : List Int) (i : Nat) : Nat := (p.getD i 0).toNat
theorem pl_at {p : List Int} (hp : p.Perm (rnds n)) {i : Nat} (hi : i < n) : p[i]? = some ((Pl p i : Nat) : Int) ∧ Pl p i < n := by
  have hl : p.length = n := by rw [hp.length_eq, rnds_len]
  have e : p[i]? = some p[i] := List.getElem?_eq_getElem (by omega)
  have := rnds_mem (hp.mem_iff.mp (List.mem_of_getElem? e))
  unfold Pl
  rw [List.getD_eq_getElem?_getD, e]
  simp
  omega
theorem pm_of {p : List Int} (hp : p.Perm (rnds n)) : Cy.PM (Pl p) n where
  lt := fun i hi => (pl_at hp hi).2
  inj := fun i j hi hj e => by
    have h1 := (pl_at hp hi).1
    have h2 := (pl_at hp hj).1
    rw [e] at h1
    have hl : p.length = n := by rw [hp.length_eq, rnds_len]
    have nd : p.Nodup := hp.nodup_iff.mpr (rnds_nodup n)
    exact (List.getElem?_inj (by omega) nd).mp (h1.trans h2.symm)
theorem w_step {p : List Int} (hp : p.Perm (rnds n)) {i : Nat} (hi : i < n) {Q : Int → Prop} (q : Q ((Pl p i : Nat) : Int)) : Wp (atI p (i : Int)) Q := by
  have hl : p.length = n := by rw [hp.length_eq, rnds_len]
  refine wp_atI (k := i) (by omega) ?_
  have := (pl_at hp hi).1
  rw [List.getElem?_eq_getElem (by omega)] at this
  rw [Option.some.inj this]
  exact q
theorem cs_len {P : Nat → Nat} : ∀ (st seen : List Nat), (Cy.cs P n st seen).length ≤ st.length
  | [], _ => by simp [Cy.cs]
  | s :: r, seen => by
    unfold Cy.cs
    split
    · have := cs_len (P := P) r seen
      simp; omega
    · have := cs_len (P := P) r (seen ++ Cy.orb P n s)
      simp; omega
def df (f g : List Nat) (i : Nat) : Bool := decide (f.getD i 0 ≠ g.getD i 0)
def PFn (T : List (List Int)) (f g : List Nat) : Nat → Nat := Pl (pi T f g)
def NX (T : List (List Int)) (c : List Nat) (i : Nat) : Int := (nxt T c).getD i 0
theorem pm_pf (h : Tb T n w) (hf : On T n w f) (hg : On T n w g) : Cy.PM (PFn T f g) n := pm_of (pi_perm h hf hg)
theorem nx_inj (h : Tb T n w) (hc : On T n w c) {i j : Nat} (hi : i < n) (hj : j < n) (e : NX T c i = NX T c j) : i = j := by
  have hl := nxt_len h hc.ch.len
  unfold NX at e
  rw [List.getD_eq_getElem?_getD, List.getD_eq_getElem?_getD, List.getElem?_eq_getElem (by omega), List.getElem?_eq_getElem (by omega)] at e
  exact (List.getElem_inj hc.nd).mp e
theorem pf_ok (h : Tb T n w) (hf : On T n w f) (hg : On T n w g) {i : Nat} (hi : i < n) : PFn T f g i < n ∧ NX T g (PFn T f g i) = NX T f i := by
  obtain ⟨a, b, c⟩ := pi_get h hf hg hi
  unfold PFn Pl NX
  exact ⟨by omega, c⟩
theorem pf_uniq (h : Tb T n w) (hf : On T n w f) (hg : On T n w g) {i j : Nat} (hi : i < n) (hj : j < n) (e : NX T g j = NX T f i) : PFn T f g i = j := by
  obtain ⟨a, b⟩ := pf_ok h hf hg hi
  exact nx_inj h hg a hj (b.trans e.symm)
theorem pf_fix (h : Tb T n w) (hf : On T n w f) (hg : On T n w g) (i : Nat) (hi : i < n) (hd : df f g i = false) : PFn T f g i = i := by
  refine pf_uniq h hf hg hi hi ?_
  unfold df at hd
  unfold NX
  rw [nxt_get h hf.ch.len hi, nxt_get h hg.ch.len hi]
  have : f.getD i 0 = g.getD i 0 := by simpa using hd
  rw [this]
theorem cs_mem {P : Nat → Nat} : ∀ (st seen : List Nat) (r : List Nat), r ∈ Cy.cs P n st seen → ∃ s ∈ st, r = Cy.orb P n s
  | [], _, r, h => by simp [Cy.cs] at h
  | s :: t, seen, r, h => by
    unfold Cy.cs at h
    split at h
    · obtain ⟨x, hx, e⟩ := cs_mem t _ r h
      exact ⟨x, List.mem_cons_of_mem _ hx, e⟩
    · rcases List.mem_cons.mp h with rfl | h
      · exact ⟨s, by simp, rfl⟩
      · obtain ⟨x, hx, e⟩ := cs_mem t _ r h
        exact ⟨x, List.mem_cons_of_mem _ hx, e⟩
def En (T : List (List Int)) (i k : Nat) : Int := (T.getD i []).getD k 0
theorem on_rep (h : Tb T n w) {k : Nat} (hk : k < w) : On T n w (List.replicate n k) where
  ch := ⟨by simp, fun j hj => by rw [(List.mem_replicate.mp hj).2]; exact hk⟩
  nd := by rw [nxt_rep h hk]; exact h.nod k hk
theorem getD_lt (hc : Ch c n w) {i : Nat} (hi : i < n) : c.getD i 0 < w := by
  rw [List.getD_eq_getElem?_getD, List.getElem?_eq_getElem (by rw [hc.len]; exact hi)]
  exact hc.lt _ (List.getElem_mem _)
theorem list_getD {l m : List Nat} (hl : l.length = n) (hm : m.length = n) (e : ∀ i, i < n → l.getD i 0 = m.getD i 0) : l = m := by
  apply List.ext_getElem (by omega)
  intro i h1 h2
  have := e i (by omega)
  rw [List.getD_eq_getElem?_getD, List.getD_eq_getElem?_getD, List.getElem?_eq_getElem h1, List.getElem?_eq_getElem h2] at this
  exact this
theorem nx_get (h : Tb T n w) (hc : c.length = n) {i : Nat} (hi : i < n) : NX T c i = En T i (c.getD i 0) := nxt_get h hc hi
theorem nx_rep (h : Tb T n w) {k : Nat} (hk : k < w) {i : Nat} (hi : i < n) : NX T (List.replicate n k) i = En T i k := by
  rw [nx_get h (by simp) hi]
  simp [hi]
/-- who follows -/
def fo (T : List (List Int)) (n one two : Nat) : Nat → Nat := PFn T (List.replicate n one) (List.replicate n two)
section
variable {one two : Nat} (h : Tb T n w) (h1 : one < w) (h2 : two < w)
include h h1 h2 in
theorem fo_pm : Cy.PM (fo T n one two) n := pm_pf h (on_rep h h1) (on_rep h h2)
include h h1 h2 in
theorem fo_ok {i : Nat} (hi : i < n) : fo T n one two i < n ∧ En T (fo T n one two i) two = En T i one := by
  obtain ⟨a, b⟩ := pf_ok h (on_rep h h1) (on_rep h h2) hi
  refine ⟨a, ?_⟩
  rw [nx_rep h h2 a, nx_rep h h1 hi] at b
  exact b
include h h1 h2 in
theorem fo_uniq {i j : Nat} (hi : i < n) (hj : j < n) (e : En T j two = En T i one) : fo T n one two i = j := by
  refine pf_uniq h (on_rep h h1) (on_rep h h2) hi hj ?_
  rw [nx_rep h h2 hj, nx_rep h h1 hi]
  exact e
include h in
theorem en_inj {k : Nat} (hk : k < w) {i j : Nat} (hi : i < n) (hj : j < n) (e : En T i k = En T j k) : i = j := by
  refine nx_inj h (on_rep h hk) hi hj ?_
  rw [nx_rep h hk hi, nx_rep h hk hj]
  exact e
include h h1 in
theorem fo_self {i : Nat} (hi : i < n) : fo T n one one i = i := fo_uniq h h1 h1 hi hi rfl
end
/-- the same throughout classes -/
structure Kp (T : List (List Int)) (n one two : Nat) (c : List Nat) : Prop where
  len : c.length = n
  is : ∀ k ∈ c, k = one ∨ k = two
  same : ∀ i, i < n → c.getD (fo T n one two i) 0 = c.getD i 0
theorem getD_mem {i : Nat} (hi : i < c.length) : c.getD i 0 ∈ c := by
  rw [List.getD_eq_getElem?_getD, List.getElem?_eq_getElem hi]
  exact List.getElem_mem hi
theorem nodup_of_inj {l : List Int} (h : ∀ i j, i < l.length → j < l.length → l.getD i 0 = l.getD j 0 → i = j) : l.Nodup := by
  rw [List.nodup_iff_pairwise_ne, List.pairwise_iff_getElem]
  intro i j hi hj hij e
  have := h i j hi hj (by rw [List.getD_eq_getElem?_getD, List.getD_eq_getElem?_getD, List.getElem?_eq_getElem hi, List.getElem?_eq_getElem hj, e])
  omega
section
variable {one two : Nat} (h : Tb T n w) (h1 : one < w) (h2 : two < w)
include h1 h2 in
theorem Kp.ch (k : Kp T n one two c) : Ch c n w := ⟨k.len, fun x hx => by rcases k.is x hx with rfl | rfl <;> assumption⟩
include h h1 h2 in
theorem Kp.on (k : Kp T n one two c) : On T n w c where
  ch := k.ch h1 h2
  nd := by
    have hl := nxt_len h k.len
    refine nodup_of_inj fun i j hi hj e => ?_
    rw [hl] at hi hj
    have e' : NX T c i = NX T c j := e
    rw [nx_get h k.len hi, nx_get h k.len hj] at e'
    have ci := k.is _ (getD_mem (c := c) (i := i) (by rw [k.len]; exact hi))
    have cj := k.is _ (getD_mem (c := c) (i := j) (by rw [k.len]; exact hj))
    by_cases z : c.getD i 0 = c.getD j 0
    · rw [z] at e'
      refine en_inj h ?_ hi hj e'
      rcases cj with q | q <;> rw [q] <;> assumption
    · exfalso
      rcases ci with a | a <;> rcases cj with b | b <;> rw [a, b] at e' z
      · exact z rfl
      · have := fo_uniq h h1 h2 hi hj e'.symm
        have s := k.same i hi
        rw [this, b, a] at s
        exact z s.symm
      · have := fo_uniq h h1 h2 hj hi e'
        have s := k.same j hj
        rw [this, a, b] at s
        exact z s
      · exact z rfl
include h h1 h2 in
theorem kp_of_fwd (cl : c.length = n) (ht : ∀ k ∈ c, k = one ∨ k = two) (fwd : ∀ i, i < n → c.getD i 0 = one → c.getD (fo T n one two i) 0 = one) : Kp T n one two c where
  len := cl
  is := ht
  same := by
    have P := fo_pm h h1 h2
    have its : ∀ k i, i < n → c.getD i 0 = one → c.getD (Cy.it (fo T n one two) k i) 0 = one := by
      intro k
      induction k with
      | zero => intro i _ e; exact e
      | succ k ih => intro i hi e; exact fwd _ (Cy.it_lt P hi k) (ih i hi e)
    intro i hi
    by_cases e : c.getD i 0 = one
    · rw [e]; exact fwd i hi e
    · obtain ⟨a, b⟩ := fo_ok h h1 h2 hi
      have ci := (ht _ (getD_mem (c := c) (i := i) (by omega))).resolve_left e
      rcases ht _ (getD_mem (c := c) (i := fo T n one two i) (by omega)) with q | q
      · exfalso
        obtain ⟨k, k1, _, k3⟩ := Cy.returns P hi
        have := its (k - 1) _ a q
        rw [Cy.it_succ, show k - 1 + 1 = k by omega, k3] at this
        exact e this
      · rw [q, ci]
include h h1 h2 in
/-- a one to one choice of both is the same throughout classes -/
theorem kp_of_on (hc : On T n w c) (ht : ∀ k ∈ c, k = one ∨ k = two) : Kp T n one two c := by
  have cl := hc.ch.len
  refine kp_of_fwd h h1 h2 cl ht fun i hi e => ?_
  obtain ⟨a, b⟩ := fo_ok h h1 h2 hi
  rcases ht _ (getD_mem (c := c) (i := fo T n one two i) (by omega)) with q | q
  · exact q
  · have : NX T c i = NX T c (fo T n one two i) := by rw [nx_get h cl hi, nx_get h cl a, e, q, b]
    have e2 := nx_inj h hc hi a this
    rw [← e2]
    exact e
include h h1 h2 in
theorem kp_orb (k : Kp T n one two c) {a x : Nat} (ha : a < n) (hx : x ∈ Cy.orb (fo T n one two) n a) : c.getD x 0 = c.getD a 0 := by
  have P := fo_pm h h1 h2
  obtain ⟨j, rfl⟩ := (Cy.mem_orb P ha).mp hx
  clear hx
  induction j with
  | zero => rfl
  | succ j ih =>
    show c.getD (fo T n one two (Cy.it (fo T n one two) j a)) 0 = _
    rw [k.same _ (Cy.it_lt P ha j), ih]
end
theorem cs_cover {P : Nat → Nat} : ∀ (st seen : List Nat) (x : Nat), x ∈ st → x ∈ seen ∨ ∃ r ∈ Cy.cs P n st seen, x ∈ r
  | [], _, x, h => by cases h
  | s :: t, seen, x, h => by
    unfold Cy.cs
    split
    · rename_i hs
      rcases List.mem_cons.mp h with rfl | h
      · exact .inl (by simpa using hs)
      · exact cs_cover t seen x h
    · rcases List.mem_cons.mp h with rfl | h
      · exact .inr ⟨_, List.mem_cons_self .., Cy.self_orb _⟩
      · rcases cs_cover t (seen ++ Cy.orb P n s) x h with q | ⟨r, hr, hx⟩
        · rcases List.mem_append.mp q with q | q
          · exact .inl q
          · exact .inr ⟨_, List.mem_cons_self .., q⟩
        · exact .inr ⟨r, List.mem_cons_of_mem _ hr, hx⟩
/-- all classes -/
def cls (T : List (List Int)) (n one two : Nat) : List (List Nat) := Cy.cs (fo T n one two) n (List.range n) []
theorem cls_in {one two : Nat} {r : List Nat} (h : r ∈ cls T n one two) : ∃ a, a < n ∧ r = Cy.orb (fo T n one two) n a := by
  obtain ⟨s, hs, e⟩ := cs_mem _ _ _ h
  exact ⟨s, by simpa using hs, e⟩
theorem cls_all {one two i : Nat} (hi : i < n) : ∃ r ∈ cls T n one two, i ∈ r := by
  rcases cs_cover (P := fo T n one two) (n := n) (List.range n) [] i (by simpa using hi) with q | q
  · cases q
  · exact q
theorem cls_len {one two : Nat} : (cls T n one two).length ≤ n := by
  have := cs_len (n := n) (P := fo T n one two) (List.range n) []
  unfold cls
  simpa using this
/-- what is met: whole classes -/
structure Seen (P : Nat → Nat) (n : Nat) (seen : List Nat) : Prop where
  nd : seen.Nodup
  lt : ∀ x ∈ seen, x < n
  cl : ∀ x ∈ seen, ∀ y ∈ Cy.orb P n x, y ∈ seen
theorem Seen.nil {P : Nat → Nat} : Seen P n [] := ⟨List.nodup_nil, fun x h => (by cases h), fun x h => (by cases h)⟩
theorem Seen.len {P : Nat → Nat} {seen : List Nat} (h : Seen P n seen) : seen.length ≤ n := Cy.nodup_lt n _ h.nd h.lt
theorem Seen.add {P : Nat → Nat} (hP : Cy.PM P n) {seen : List Nat} (h : Seen P n seen) {s : Nat} (hs : s < n) (hn : s ∉ seen) : Seen P n (seen ++ Cy.orb P n s) where
  nd := by
    rw [List.nodup_append]
    refine ⟨h.nd, Cy.orb_nodup hP hs, fun a ha b hb e => ?_⟩
    subst e
    exact hn (h.cl a ha s (Cy.orb_sym hP hs hb))
  lt := fun x hx => by
    rcases List.mem_append.mp hx with hx | hx
    · exact h.lt x hx
    · exact Cy.orb_lt hP hs hx
  cl := fun x hx y hy => by
    rcases List.mem_append.mp hx with hx | hx
    · exact List.mem_append_left _ (h.cl x hx y hy)
    · exact List.mem_append_right _ (Cy.orb_trans hP hs hx hy)
theorem cs_in {P : Nat → Nat} {s : Nat} {t seen : List Nat} (h : s ∈ seen) : Cy.cs P n (s :: t) seen = Cy.cs P n t seen := by
  conv => lhs; unfold Cy.cs
  rw [if_pos (by simpa using h)]
theorem cs_out {P : Nat → Nat} {s : Nat} {t seen : List Nat} (h : s ∉ seen) : Cy.cs P n (s :: t) seen = Cy.orb P n s :: Cy.cs P n t (seen ++ Cy.orb P n s) := by
  conv => lhs; unfold Cy.cs
  rw [if_neg (by simpa using h)]
def nD (l : List Nat) : List D := l.map fun (i : Nat) => (.int (i : Int) : D)
theorem cIn_l {d : D} {ds : List D} : cIn d (.list ds) = if SeqAt.shaped d = true ∧ SeqAt.shaped (.list ds) = true then some (ds.any fun z => PyData.eqv z d) else none := rfl
theorem cIn_t {d : D} {ds : List D} : cIn d (.tuple ds) = if (flat d = true ∧ ds.all flat = true) ∨ (SeqAt.shaped d = true ∧ SeqAt.shaped (.tuple ds) = true) then some (ds.any fun z => PyData.eqv z d) else none := rfl
theorem any_nD (l : List Nat) (i : Nat) : ((nD l).any fun z => PyData.eqv z (.int (i : Nat))) = l.contains i := by
  unfold nD
  rw [List.any_map]
  induction l with
  | nil => rfl
  | cons a r ih =>
    simp only [List.any_cons, ih, List.contains_cons, Function.comp]
    congr 1
    rw [eqv_ii, Bool.eq_iff_iff]
    simp
    omega
theorem in_nD (l : List Nat) (i : Nat) : cIn (.int (i : Nat)) (.list (nD l)) = some (l.contains i) := by
  rw [cIn_l, any_nD, if_pos]
  simp [nD]
theorem in_rD (l : List Nat) (i : Nat) : cIn (.int (i : Nat)) (rD l) = some (l.contains i) := by
  show cIn _ (.tuple (nD l)) = _
  rw [cIn_t, any_nD, if_pos]
  refine .inr ?_
  simp [nD]
theorem rg_nD (k : Nat) : rgD 0 (k : Int) = nD (List.range k) := by
  unfold rgD nD
  simp
theorem orb_prev {P : Nat → Nat} (hP : Cy.PM P n) {a x : Nat} (ha : a < n) (hx : x < n) (h : P x ∈ Cy.orb P n a) : x ∈ Cy.orb P n a := by
  have h1 := Cy.orb_sym hP ha h
  have h2 := Cy.orb_next hP hx (Cy.self_orb (P := P) (n := n) x)
  exact Cy.orb_sym hP hx (Cy.orb_trans hP hx h2 h1)
theorem putT_nodup {α β : Type} [DecidableEq α] {kk : List (α × β)} {k : α} {v : β} (h : (kys kk).Nodup) : (kys (putT kk k v)).Nodup := by
  by_cases hk : k ∈ kys kk
  · rw [show kys (putT kk k v) = kys kk from putT_keys hk]
    exact h
  · rw [putT_new (kys_not hk), kys_app, List.nodup_append]
    exact ⟨h, by simp, fun a ha b hb e => hk (by rw [List.mem_singleton.mp hb] at e; rw [← e]; exact ha)⟩
theorem putT_in {α β : Type} [DecidableEq α] {kk : List (α × β)} {k x : α} {v : β} (h : x ∈ kys (putT kk k v)) : x = k ∨ x ∈ kys kk := by
  by_cases hk : k ∈ kys kk
  · rw [show kys (putT kk k v) = kys kk from putT_keys hk] at h
    exact .inr h
  · rw [putT_new (kys_not hk), kys_app, List.mem_append] at h
    rcases h with h | h
    · exact .inr h
    · exact .inl (List.mem_singleton.mp h)
/-- a dict whose keys are numbers below n -/
structure KN (n : Nat) (kk : List (Int × D)) : Prop where
  nd : (kys kk).Nodup
  lt : ∀ k ∈ kys kk, k ∈ rnds n
theorem KN.nil : KN n [] := ⟨by simp [kys], fun k h => by simp [kys] at h⟩
theorem KN.len {kk : List (Int × D)} (h : KN n kk) : kk.length ≤ n := by
  have := nodup_sub h.nd h.lt
  rwa [kys_len, rnds_len] at this
theorem KN.put {kk : List (Int × D)} (h : KN n kk) {x : Nat} (hx : x < n) (v : D) : KN n (putT kk (x : Int) v) where
  nd := putT_nodup h.nd
  lt := fun k hk => by
    rcases putT_in hk with rfl | hk
    · exact List.mem_map.mpr ⟨x, List.mem_range.mpr hx, rfl⟩
    · exact h.lt k hk
/-- the number that a dict holds -/
def dv : Option D → Nat
  | some (.int k) => k.toNat
  | _ => 0
theorem cnt_const {l : List Int} {v : Int} (h : ∀ x ∈ l, x = v) : cntI l ≤ 1 := by
  have := nodup_sub (dd_nodup l) (m := [v]) fun x hx => by rw [h x ((dd_mem l x).mp hx)]; simp
  exact this
theorem cnt_two {l : List Int} {a b : Int} (ha : a ∈ l) (hb : b ∈ l) (h : a ≠ b) : 2 ≤ cntI l := by
  have := nodup_sub (l := [a, b]) (m := ddI l) (by simpa using h) fun x hx => by
    simp at hx
    rcases hx with rfl | rfl
    · exact (dd_mem l _).mpr ha
    · exact (dd_mem l _).mpr hb
  exact this
def rI (r : List Nat) : List Int := r.map fun (i : Nat) => (i : Int)
theorem rD_tI (r : List Nat) : rD r = tI (rI r) := by simp [rD, tI, rI]
theorem rD_map (R : List (List Nat)) : R.map rD = (R.map rI).map tI := by
  rw [List.map_map]
  exact List.map_congr_left fun r _ => rD_tI r
theorem rI_inj : ∀ {a b : List Nat}, rI a = rI b → a = b
  | [], [], _ => rfl
  | [], _ :: _, h => by simp [rI] at h
  | _ :: _, [], h => by simp [rI] at h
  | x :: a, y :: b, h => by
    simp only [rI, List.map_cons, List.cons.injEq] at h
    have := rI_inj (a := a) (b := b) h.2
    rw [this, show x = y by omega]
@[simp] theorem shn_rD {k : Nat} {r : List Nat} : shn (k + 1) (rD r) = true := by rw [rD_tI]; simp
@[simp] theorem eqv_rD {a b : List Nat} : PyData.eqv (rD a) (rD b) = decide (a = b) := by
  rw [rD_tI, rD_tI, eqv_tItI, Bool.eq_iff_iff]
  simp
  exact ⟨rI_inj, fun e => by rw [e]⟩
@[simp] theorem eqvAll_rD {A B : List (List Nat)} : PyData.eqvAll (A.map rD) (B.map rD) = decide (A = B) := eqvAll_map (fun _ _ => eqv_rD) A B
@[simp] theorem shn_cD {k : Nat} {c : List Nat} : shn (k + 1) (cD c) = true := by rw [cD_tI]; simp
@[simp] theorem eqv_cD {a b : List Nat} : PyData.eqv (cD a) (cD b) = decide (a = b) := by
  rw [show cD a = rD a from rfl, show cD b = rD b from rfl, eqv_rD]
theorem six_nat {n d k : Nat} (h : k ≤ n) : HT.sIx n d (some (k : Int)) = k := by
  rw [HT.sIx_nat]
  omega
theorem cut_to (ds : List D) {k : Nat} (h : k ≤ ds.length) : Pd.cutD ds none (some (k : Int)) = ds.take k := by
  unfold Pd.cutD
  rw [six_nat h]
  simp [HT.sIx]
theorem cut_from (ds : List D) {k : Nat} (h : k ≤ ds.length) : Pd.cutD ds (some (k : Int)) none = ds.drop k := by
  unfold Pd.cutD
  rw [six_nat h]
  simp only [HT.sIx]
  rw [List.take_of_length_le (by simp)]
/-! ### the other way round -/
section
variable {P Q : Nat → Nat} (hP : Cy.PM P n) (hQ : Cy.PM Q n) (hi : ∀ i, i < n → Q (P i) = i)
include hP hi in
theorem it_inv {a : Nat} (ha : a < n) : ∀ j, Cy.it Q j (Cy.it P j a) = a
  | 0 => rfl
  | j + 1 => by
    rw [← Cy.it_succ]
    show Cy.it Q j (Q (P (Cy.it P j a))) = a
    rw [hi _ (Cy.it_lt hP ha j), it_inv ha j]
include hP hi in
theorem it_back {a k j : Nat} (ha : a < n) (hk : Cy.it P k a = a) (hj : j ≤ k) : Cy.it Q j a = Cy.it P (k - j) a := by
  have e : Cy.it P j (Cy.it P (k - j) a) = a := by
    rw [← Cy.it_add, show j + (k - j) = k by omega, hk]
  conv => lhs; rw [← e]
  exact it_inv hP hi (Cy.it_lt hP ha _) j
def rev1 (r : List Nat) : List Nat := r.take 1 ++ (r.drop 1).reverse
include hP hQ hi in
theorem orb_back {a : Nat} (ha : a < n) : Cy.orb Q n a = rev1 (Cy.orb P n a) := by
  obtain ⟨k, k1, k2, k3, k4, e⟩ := Cy.orb_spec hP ha
  obtain ⟨m, m1, m2, m3, m4, e'⟩ := Cy.orb_spec hQ ha
  have hk : Cy.it Q k a = a := by rw [it_back hP hi ha k3 (Nat.le_refl k)]; simp [Cy.it]
  have mk : m = k := by
    rcases Nat.lt_trichotomy m k with z | z | z
    · exfalso
      rw [it_back hP hi ha k3 (by omega)] at m3
      exact k4 (k - m) (by omega) (by omega) m3
    · exact z
    · exact absurd hk (m4 k k1 z)
  subst mk
  rw [e, e']
  unfold rev1
  apply List.ext_getElem
  · simp; omega
  · intro j h1 h2
    simp at h1
    simp only [List.getElem_map, List.getElem_range]
    by_cases j0 : j = 0
    · subst j0
      rw [List.getElem_append_left (by simp; omega)]
      simp [Cy.it]
    · rw [it_back hP hi ha k3 (by omega), List.getElem_append_right (by simp; omega)]
      rw [List.getElem_reverse]
      simp
      congr 1
      omega
include hP hQ hi in
theorem cs_back : ∀ (st seen seen' : List Nat), (∀ s ∈ st, s < n) → (∀ x, x ∈ seen ↔ x ∈ seen') → Cy.cs Q n st seen' = (Cy.cs P n st seen).map rev1
  | [], _, _, _, _ => rfl
  | s :: t, seen, seen', hs, he => by
    have hs0 := hs s (by simp)
    have ht : ∀ s ∈ t, s < n := fun x hx => hs x (List.mem_cons_of_mem _ hx)
    by_cases z : s ∈ seen
    · rw [cs_in z, cs_in ((he s).mp z)]
      exact cs_back t seen seen' ht he
    · rw [cs_out z, cs_out (fun q => z ((he s).mpr q)), List.map_cons, orb_back hP hQ hi hs0]
      congr 1
      refine cs_back t _ _ ht fun x => ?_
      rw [List.mem_append, List.mem_append, he x]
      have : x ∈ rev1 (Cy.orb P n s) ↔ x ∈ Cy.orb P n s := by
        unfold rev1
        conv => rhs; rw [← List.take_append_drop 1 (Cy.orb P n s)]
        simp
      rw [this]
end
theorem fo_fo {T : List (List Int)} {w one two : Nat} (h : Tb T n w) (h1 : one < w) (h2 : two < w) {i : Nat} (hi : i < n) : fo T n two one (fo T n one two i) = i := by
  obtain ⟨a, b⟩ := fo_ok h h1 h2 hi
  exact fo_uniq h h2 h1 a hi b.symm
theorem cls_back {T : List (List Int)} {w one two : Nat} (h : Tb T n w) (h1 : one < w) (h2 : two < w) : cls T n two one = (cls T n one two).map rev1 :=
  cs_back (fo_pm h h1 h2) (fo_pm h h2 h1) (fun i hi => fo_fo h h1 h2 hi) _ _ _ (by simp) (by simp)
theorem atI_prev {α : Type} {l : List α} {p : Nat} (hp : p < l.length) : atI l ((p : Int) - 1) = some (l[(p + l.length - 1) % l.length]'(Nat.mod_lt _ (by omega))) := by
  by_cases p0 : p = 0
  · subst p0
    have e : ((0 : Nat) : Int) - 1 = -1 := by omega
    rw [e, Pd.atI_last, List.getLast?_eq_getElem?, List.getElem?_eq_getElem (by omega)]
    congr 1
    have : (0 + l.length - 1) % l.length = l.length - 1 := by
      rw [Nat.zero_add]
      exact Nat.mod_eq_of_lt (by omega)
    simp only [this]
  · have e : (p : Int) - 1 = ((p - 1 : Nat) : Int) := by omega
    rw [e, atI_nat (List.getElem?_eq_getElem (by omega))]
    congr 1
    have : (p + l.length - 1) % l.length = p - 1 := by
      rw [show p + l.length - 1 = p - 1 + l.length by omega, Nat.add_mod_right, Nat.mod_eq_of_lt (by omega)]
    simp only [this]
end Pd

namespace K20
open PySem PySem.Spec PyProof.Rows L2 Pd
theorem is_integer_int (i : Int) : m_is_integer [.int i] = some (.ret (.bool true)) := by rfl
theorem is_index_eq (d : D) (n : Int) (hd : ∀ kvs, d ≠ .dict kvs) : m_is_index [d, .int n] = some (.ret (.bool (isIx n d))) := by
  cases d with
  | int i =>
    by_cases h : 0 ≤ i
    · simp [m_is_index, mOf, b_is_index, s_is_index_0, sSeq, sRet, fAndV, fCall, aCons, aNil, fVar, is_integer_int, truth, fChain, fC, cLe, cLt, isIx, h]
    · simp [m_is_index, mOf, b_is_index, s_is_index_0, sSeq, sRet, fAndV, fCall, aCons, aNil, fVar, is_integer_int, truth, fChain, fC, cLe, cLt, isIx, h]
  | dict kvs => exact absurd rfl (hd kvs)
  | _ => rfl
theorem are_indices_eq (v : D) (n : Int) (hv : ND1 v) : m_are_indices [v, .int n] = some (.ret (.bool (areIx n v))) := by
  cases v with
  | tuple ds =>
    obtain ⟨hl, he⟩ := hv.2 ds rfl
    have hc : lComp (iSeq (fVar 0)) (gN 2) tTrue (fCall m_is_index (aCons (fVar 2) (aCons (fVar 1) aNil))) [2] [.sh (.tuple ds), .sh (.int n), .no] = some (ds.map fun d => .bool (isIx n d), [.sh (.tuple ds), .sh (.int n), .no]) :=
      lComp_map (δ1 := [.sh (.tuple ds), .sh (.int n), .no]) (δ0 := [.sh (.tuple ds), .sh (.int n), .no]) _ rfl rfl hl rfl fun d hd =>
        ⟨[.sh (.tuple ds), .sh (.int n), .sh d], [.sh (.tuple ds), .sh (.int n), .sh d], [.sh (.tuple ds), .sh (.int n), .sh d], rfl, rfl, by simp [fCall, aCons, aNil, fVar, is_index_eq d n (he d hd)], rfl⟩
    simp [m_are_indices, mOf, b_are_indices, s_are_indices_0, sSeq, sRet, fAndV, f1, fVar, isT, fList, hc, uAll_map, areIx]
  | dict kvs => exact absurd rfl (hv.1 kvs)
  | _ => rfl
theorem roll_ok {xs : List D} (h : CupOk xs) {n : Int} (h1 : 1 ≤ n) (h2 : n ≤ 1000) : ∃ k xs', m_law_roll xs [.int n] = some (.int k, xs') ∧ 0 ≤ k ∧ k < n ∧ CupOk xs' := by
  obtain ⟨c0, c1, rfl, p0, p1, p2⟩ := h
  have n0 : n ≠ 0 := by omega
  have nd : n.natAbs < 1073741824 := by omega
  by_cases hc : 0 < c0
  · refine ⟨c0.fmod n, [.int (c0.fdiv n), .int c1], ?_, Int.fmod_nonneg_of_pos _ (by omega), Int.fmod_lt_of_pos _ (by omega), _, _, rfl, Int.fdiv_nonneg p0 (by omega), p1, p2⟩
    have g : cGt (.int c0) (.int 0) = some true := by
      show some (decide (c0 > 0)) = _
      rw [decide_eq_true (show c0 > 0 from hc)]
    simp [m_law_roll, mOfC, b_law_roll, s_law_roll_0, s_law_roll_1, s_law_roll_2, s_law_roll_3, sSeq, sIf, fCmpT, fCmp, fOp, fIxX, fPeek, pC, ix0, fC, g, sSet, f1, uInt, fVar, opMod, n0, free0, sAsg, opDiv, nd, gSubO, ixn0, sRet]
  · have g : cGt (.int c0) (.int 0) = some false := by
      show some (decide (c0 > 0)) = _
      rw [decide_eq_false (show ¬ c0 > 0 from hc)]
    have q0 : 0 ≤ (c1 * 30911 + 7901).fmod 2147483423 := Int.fmod_nonneg_of_pos _ (by omega)
    have q1 : (c1 * 30911 + 7901).fmod 2147483423 < 2147483423 := Int.fmod_lt_of_pos _ (by omega)
    generalize hd : (c1 * 30911 + 7901).fmod 2147483423 = d at q0 q1
    have s1 := small_in p1 p2
    have s2 := small_in (i := d) q0 (by omega)
    refine ⟨(((d * (d + 179)).fmod 2147483587).fdiv 751).fmod n, [.int c0, .int d], ?_, Int.fmod_nonneg_of_pos _ (by omega), Int.fmod_lt_of_pos _ (by omega), _, _, rfl, p0, q0, by omega⟩
    simp [m_law_roll, mOfC, b_law_roll, s_law_roll_0, s_law_roll_1, s_law_roll_2, s_law_roll_3, sSeq, sIf, fCmpT, fCmp, fOp, fIxX, fPeek, pC, ix0, ix1, fC, g, sNil, sAsg, opMulA, opMul, s1, opAdd, f1, uInt, opMod, hd, gSubO, ixn1, sSet, s2, free0, fVar, opDiv, n0, sRet]
theorem w_roll {xs : List D} (h : CupOk xs) {n : Int} (h1 : 1 ≤ n) (h2 : n ≤ 1000) {Q : D × List D → Prop} (q : ∀ (k : Nat) xs', (k : Int) < n → CupOk xs' → Q (.int k, xs')) : Wp (m_law_roll xs [.int n]) Q := by
  obtain ⟨k, x1, e, k0, k1, hx⟩ := roll_ok h h1 h2
  obtain ⟨j, rfl⟩ : ∃ j : Nat, k = j := ⟨k.toNat, by omega⟩
  exact wp_of_eq e (q j x1 k1 hx)
theorem w_cup {ns : List Int} (h : ns.length ≤ 63) {Q : List D → Prop} (q : ∀ xs, CupOk xs → Q xs) : Wp (m_law_cup ns) Q := by
  simp [m_law_cup]
  refine ⟨by omega, by omega, ?_⟩
  obtain ⟨a, ha⟩ : ∃ a : Int, atI (ns.map PyData.int ++ [.int 0]) 0 = some (.int a) := by
    cases ns with
    | nil => exact ⟨0, rfl⟩
    | cons n r => exact ⟨n, atI_nat (j := 0) rfl⟩
  refine wp_of_eq ha ?_
  obtain ⟨c, hc, p⟩ : ∃ c : Int, (if a < 0 then -a else a) = c ∧ 0 ≤ c := ⟨_, rfl, by split <;> omega⟩
  have s229 : small 229 = true := by decide
  have s10 : small 10 = true := by decide
  have q0 : 0 ≤ (c * 229 + 1709).fmod 2077503719 := Int.fmod_nonneg_of_pos _ (by omega)
  have q1 : (c * 229 + 1709).fmod 2077503719 < 2077503719 := Int.fmod_lt_of_pos _ (by omega)
  simp [hc, s229, s10]
  refine ⟨fun hg => q _ ⟨_, _, rfl, Int.fdiv_nonneg p (by omega), by omega, by omega⟩, fun hg => q _ ⟨_, _, rfl, by omega, by omega, by omega⟩⟩
variable {T : List (List Int)} {n w : Nat} {c f g : List Nat}
theorem idx_ok (r : List Int) (n : Nat) (hl : r.length ≤ 1000) (h : ∀ i ∈ r, 0 ≤ i ∧ i < (n : Int)) : m_are_indices [tI r, .int (n : Nat)] = some (.ret (.bool true)) := by
  have e := are_indices_eq (tI r) (n : Int) (nd1_tI r (by omega))
  rw [show areIx (n : Int) (tI r) = true from all_ix h] at e
  exact e
theorem is_table_ok (h : Tb T n w) : m_is_table [tbD T] = some (.ret (.bool true)) := by
  refine Wp.eq ?_
  have h1 := h.n1
  have h2 := h.n2
  have h3 := h.w1
  have h4 := h.w2
  have hl := h.len
  obtain ⟨r0, R, e⟩ := List.exists_cons_of_ne_nil (show T ≠ [] by intro z; rw [z] at hl; simp at hl; omega)
  have hr0 : r0.length = w := h.wid r0 (by rw [e]; exact List.mem_cons_self ..)
  simp [m_is_table, tbD, hl, h1, h2]
  refine ⟨fun _ => ⟨by omega, fun _ => ?_⟩, by omega⟩
  simp [t_is_table_1, hl]
  refine ⟨by omega, ?_⟩
  refine wp_cAll tI T (fun _ => .bool true) rfl (fun r hr => ?_) ?_
  · simp [hl]
    refine wp_of_eq (idx_ok r n (by rw [h.wid r hr]; omega) (h.ent r hr)) ?_
    simp
  have hat : atI (List.map tI T) 0 = some (tI r0) := by rw [e]; exact atI_nat (j := 0) rfl
  rw [show (fun _ : List Int => PyData.bool true) = (fun x => PyData.bool ((fun _ => true) x)) from rfl]
  simp [t_is_table_2, hat, hr0, t_is_table_3, hl]
  refine ⟨fun _ => ⟨by omega, fun _ => ⟨by omega, ?_⟩⟩, by omega⟩
  refine wp_cAll tI T (fun _ => .bool false) rfl (fun r hr => ?_) ?_
  · simp [h.wid r hr]
  rw [show (fun _ : List Int => PyData.bool false) = (fun x => PyData.bool ((fun _ => false) x)) from rfl]
  have rk : rgOk 0 (w : Int) = true := by
    unfold rgOk
    simp
    omega
  have rgw : rgD 0 (w : Int) = (List.range w).map fun (k : Nat) => PyData.int (k : Int) := by
    unfold rgD
    simp
  simp [t_is_table_4, rk, rgw]
  refine ⟨by omega, ?_⟩
  refine wp_cAll (fun (k : Nat) => PyData.int (k : Int)) (List.range w) (fun _ => .bool true) rfl (fun k hk => ?_) ?_
  · rw [List.mem_range] at hk
    simp [hl]
    refine ⟨by omega, ?_⟩
    refine wp_cAll tI T (fun r => .int (r.getD k 0)) rfl (fun r hr => ?_) ?_
    · have hrl := h.wid r hr
      have hi : atI (r.map PyData.int) (k : Int) = some (.int (r.getD k 0)) := by
        refine atI_nat (j := k) ?_
        rw [List.getElem?_map, List.getElem?_eq_getElem (by omega), List.getD_eq_getElem?_getD, List.getElem?_eq_getElem (by omega)]
        rfl
      simp [tI, hi]
    · have hc : intsD (T.map fun r => PyData.int (r.getD k 0)) = some (col T k) := by
        have := ints_ok (col T k)
        rw [col, List.map_map] at this
        exact this
      have hcl : (col T k).length = n := by rw [col, List.length_map, hl]
      simp [hl]
      refine wp_of_eq hc ?_
      simp [cnt_nodup (h.nod k hk), hcl]
      omega
  · rw [show (fun _ : Nat => PyData.bool true) = (fun x => PyData.bool ((fun _ => true) x)) from rfl]
    simp
theorem check_table_ok (h : Tb T n w) : m_check_table [tbD T] = some (.ret .none) := by
  refine Wp.eq ?_
  simp [m_check_table]
  refine wp_of_eq (is_table_ok h) ?_
  simp
theorem nexts_ok (h : Tb T n w) {c : List Nat} (hc : c.length = n) (hw : ∀ k ∈ c, k < w) : m_law_nexts [tbD T, cD c] = some (.ret (tI (nxt T c))) := by
  refine Wp.eq ?_
  have h2 := h.n2
  have hl := h.len
  simp [m_law_nexts, cD, enum_gen]
  refine ⟨by omega, ?_⟩
  refine wp_cAll (fun p : Nat × Nat => .tuple [.int (p.2 : Nat), .int (p.1 : Nat)]) c.zipIdx (fun p => .int ((T.getD p.2 []).getD p.1 0)) rfl (fun p hp => ?_) ?_
  · obtain ⟨k, i⟩ := p
    have hm := List.mem_zipIdx' hp
    obtain ⟨hi, he⟩ := hm
    have hk : k < w := he ▸ hw _ (List.getElem_mem hi)
    have hT : i < T.length := by omega
    have hr := h.wid _ (List.getElem_mem hT)
    simp [tbD]
    refine wp_atI hT ?_
    refine wp_atI (by omega) ?_
    simp [List.getElem?_eq_getElem hT, List.getElem?_eq_getElem (show k < T[i].length by omega)]
  · simp [tI, nxt]
    apply List.ext_getElem
    · simp [hl, hc]
    · intro m h1 h2
      simp at h1 h2 ⊢
      rw [List.getElem?_eq_getElem (show m < T.length by omega)]
      simp
theorem ends_by_ok (h : Tb T n w) {c : List Nat} (hc : c.length = n) (hw : ∀ k ∈ c, k < w) : m_ends_by [tbD T, cD c] = some (.ret (tI (nxt T c))) := by
  refine Wp.eq ?_
  have h2 := h.n2
  have hl := h.len
  simp [m_ends_by, tbD, cD]
  rw [zip_maps2]
  refine ⟨by simp; omega, ?_⟩
  refine wp_cAll (fun p : List Int × Nat => .tuple [tI p.1, .int (p.2 : Nat)]) (T.zip c) (fun p => .int (p.1.getD p.2 0)) rfl (fun p hp => ?_) ?_
  · obtain ⟨r, k⟩ := p
    obtain ⟨hr, hk⟩ := List.of_mem_zip hp
    have hrl := h.wid r hr
    have hkw := hw k hk
    simp
    refine wp_atI (by omega) ?_
    simp [List.getElem?_eq_getElem (show k < r.length by omega)]
  · simp [tI, nxt]
theorem could_ok (h : Tb T n w) (hc : Ch c n w) : m_could_choose [tbD T, cD c] = some (.ret (.bool true)) := by
  refine Wp.eq ?_
  have n2 := h.n2
  have cl := hc.len
  simp [m_could_choose]
  refine head_tb h fun r hr => ?_
  simp [hr]
  rw [cD_tI]
  refine wp_of_eq (idx_ok _ w (by simp; omega) ?_) ?_
  · intro i hi
    obtain ⟨k, hk, rfl⟩ := List.mem_map.mp hi
    have := hc.lt k hk
    omega
  · simp [len_tb h, cl]
theorem check_choice_ok (h : Tb T n w) (hc : Ch c n w) : m_check_choice [tbD T, cD c] = some (.ret .none) := by
  refine Wp.eq ?_
  simp [m_check_choice]
  refine wp_of_eq (could_ok h hc) ?_
  simp
theorem first_meeting_ok (h : Tb T n w) (hc : Ch c n w) : ∃ d, m_first_meeting [tbD T, cD c] = some (.ret d) ∧ isNone d = decide (nxt T c).Nodup := by
  refine wp_retE ?_
  have n2 := h.n2
  have nl := nxt_len h hc.len
  simp [m_first_meeting]
  refine wp_of_eq (ends_by_ok h hc.len hc.lt) ?_
  simp
  generalize nxt T c = N at *
  refine wp_forE PyData.int N (fun i δ => ∃ (kk : List (Int × D)) (s3 s4 : Pd.Slot), δ = [.sh (tbD T), .sh (cD c), .ow (.dct (dI kk)), s3, s4] ∧ (N.take i).Nodup ∧ kk.length ≤ i ∧ ∀ e, (valT kk e).isSome = true ↔ e ∈ N.take i) ⟨[], .no, .no, rfl, by simp, by simp, by simp⟩ ?_ ?_
  · rintro i x δ hx ⟨kk, s3, s4, rfl, nd, kl, hk⟩
    have hi := (List.getElem?_eq_some_iff.mp hx).1
    have et : N.take (i + 1) = N.take i ++ [x] := by
      rw [List.take_succ, hx]
      rfl
    simp [l_first_meeting_1]
    constructor
    · intro hs
      have hm := (hk x).mp hs
      obtain ⟨v, hv⟩ := Option.isSome_iff_exists.mp hs
      rw [hv]
      simp
      intro hnd
      have := hnd.sublist (List.take_sublist (i + 1) N)
      rw [et] at this
      exact (List.nodup_append.mp this).2.2 x hm x (by simp) rfl
    · intro hs
      refine ⟨by omega, putT kk x (.int (i : Nat)), rfl, ?_, ?_, ?_⟩
      · rw [et, List.nodup_append]
        refine ⟨nd, by simp, fun a ha z hz e => ?_⟩
        simp at hz
        subst hz e
        have := (hk a).mpr ha
        rw [hs] at this
        cases this
      · have := putT_len kk x (.int (i : Nat) : D)
        omega
      · intro e
        rw [valT_put, et]
        by_cases hex : e = x
        · simp [hex]
        · rw [if_neg hex, hk e]
          simp [hex]
  · rintro δ ⟨kk, s3, s4, rfl, nd, kl, hk⟩
    simp
    rw [List.take_of_length_le (Nat.le_refl _)] at nd
    simp [nd]
theorem two_meet_ok (h : Tb T n w) (hc : Ch c n w) : ∃ d, m_two_that_meet [tbD T, cD c] = some (.ret d) ∧ isNone d = decide (nxt T c).Nodup := by
  obtain ⟨d, e, hd⟩ := first_meeting_ok h hc
  refine ⟨d, Wp.eq ?_, hd⟩
  simp [m_two_that_meet]
  refine wp_of_eq (check_table_ok h) ?_
  simp
  refine wp_of_eq (check_choice_ok h hc) ?_
  simp
  refine wp_of_eq e ?_
  simp
section
variable {b : Nat} (hb : isB b) {W : List (List (List Int))} (hW : ∀ L ∈ W, Ld b L) (hw : W.length ≤ 100)
include hb hW hw in
include hb hW hw in
end
section
variable {b : Nat} (hb : isB b) {W : List (List (List Int))} (hW : ∀ L ∈ W, Ld b L) (hw : W.length ≤ 6) (hw1 : 1 ≤ W.length)
include hb hW hw in
end
variable {T : List (List Int)} {n w : Nat} {c : List Nat} {one two : Nat}
theorem w_row (h : Tb T n w) {i : Nat} (hi : i < n) {Q : D → Prop} (q : Q (tI (T.getD i []))) : Wp (atI (T.map tI) (i : Int)) Q := by
  have hl := h.len
  simp
  refine wp_atI (by omega) ?_
  rw [List.getD_eq_getElem?_getD, List.getElem?_eq_getElem (by omega)] at q
  exact q
theorem w_rowT (h : Tb T n w) {i : Nat} (hi : i < n) {Q : List Int → Prop} (q : Q (T.getD i [])) : Wp (atI T (i : Int)) Q := by
  have hl := h.len
  refine wp_atI (by omega) ?_
  rw [List.getD_eq_getElem?_getD, List.getElem?_eq_getElem (by omega)] at q
  exact q
theorem row_mem (h : Tb T n w) {i : Nat} (hi : i < n) : T.getD i [] ∈ T := by
  have hl := h.len
  rw [List.getD_eq_getElem?_getD, List.getElem?_eq_getElem (by omega)]
  exact List.getElem_mem _
theorem w_ent (h : Tb T n w) {i k : Nat} (hi : i < n) (hk : k < w) {Q : Int → Prop} (q : Q (En T i k)) : Wp (atI (T.getD i []) (k : Int)) Q := by
  have hr := h.wid _ (row_mem h hi)
  refine wp_atI (by omega) ?_
  unfold En at q
  rw [List.getD_eq_getElem?_getD (l := T.getD i []), List.getElem?_eq_getElem (by omega)] at q
  exact q
variable {T : List (List Int)} {n w : Nat} {c : List Nat} {one two : Nat}
variable {T : List (List Int)} {n w : Nat} {c : List Nat} {one two : Nat}
theorem law_is_one_ok {ns : List Int} (hl : ns.length ≤ 4000) : m_law_is_one [tI ns] = some (.ret (.bool (decide ns.Nodup))) := by
  refine Wp.eq ?_
  simp [m_law_is_one, tI]
  refine wp_of_eq (ints_ok ns) ?_
  refine ⟨hl, ?_⟩
  by_cases h : ns.Nodup
  · simp [h, cnt_nodup h]
  · simp [h]
    intro z
    exact h (nodup_of_cnt (by omega))
variable {T : List (List Int)} {n w : Nat} {c : List Nat} {one two : Nat}
theorem undone_ok {b : Nat} (hb : b ≤ 720) {r : List Int} (hr : r.Perm (rnds b)) : m_undone_steps [tI r] = some (.ret (.list ((und r).map .int))) := by
  refine Wp.eq ?_
  have hl : r.length = b := by rw [hr.length_eq, rnds_len]
  have nd : r.Nodup := hr.nodup_iff.mpr (rnds_nodup b)
  simp [m_undone_steps, l_undone_steps_1]
  refine ⟨by omega, ?_⟩
  refine wp_forE PyData.int r (fun i δ => ∃ (A : List Int) (s2 s3 : Slot), δ = [.sh (tI r), .ow (.lst (A.map .int)), s2, s3] ∧ A.length = r.length ∧ ∀ (j : Nat) (x : Int), j < i → r[j]? = some x → A[x.toNat]? = some (j : Int)) ⟨List.replicate r.length 0, .no, .no, by simp, by simp, fun j x h => by omega⟩ ?_ ?_
  · rintro i x δ hx ⟨A, s2, s3, rfl, hA, hj⟩
    have xb := rnds_mem (hr.mem_iff.mp (List.mem_of_getElem? hx))
    obtain ⟨k, rfl⟩ : ∃ k : Nat, x = k := ⟨x.toNat, by omega⟩
    simp
    refine wp_ixN (by omega) ?_
    refine ⟨A.set k i, by simp [List.map_set], by simp [hA], fun j y hji hy => ?_⟩
    have yb := rnds_mem (hr.mem_iff.mp (List.mem_of_getElem? hy))
    obtain ⟨m, rfl⟩ : ∃ m : Nat, y = m := ⟨y.toNat, by omega⟩
    rw [Int.toNat_natCast]
    by_cases e : j = i
    · subst e
      rw [hx] at hy
      have : k = m := by
        have := Option.some.inj hy
        omega
      subst this
      rw [List.getElem?_set_self (by omega)]
    · have hne : k ≠ m := fun z => by
        subst z
        exact e ((List.getElem?_inj (List.getElem?_eq_some_iff.mp hy).1 nd).mp (hy.trans hx.symm))
      rw [List.getElem?_set_ne hne]
      have := hj j m (by omega) hy
      simpa using this
  · rintro δ ⟨A, s2, s3, rfl, hA, hj⟩
    simp
    have : A = und r := by
      refine List.ext_getElem? fun k => ?_
      rcases Nat.lt_or_ge k r.length with h | h
      · have hm : (k : Int) ∈ r := hr.mem_iff.mpr (List.mem_map.mpr ⟨k, List.mem_range.mpr (by omega), rfl⟩)
        have hi := List.idxOf_lt_length_iff.mpr hm
        have hg : r[r.idxOf (k : Int)]? = some (k : Int) := by rw [List.getElem?_eq_getElem hi, List.getElem_idxOf hi]
        have := hj _ _ hi hg
        rw [Int.toNat_natCast] at this
        rw [this]
        unfold und
        simp [h]
      · have hu : (und r).length = r.length := by simp [und]
        rw [List.getElem?_eq_none (l := A) (by rw [hA]; exact h), List.getElem?_eq_none (l := und r) (by rw [hu]; exact h)]
    rw [this]
theorem undone_l {b : Nat} (hb : b ≤ 720) {r : List Int} (hr : r.Perm (rnds b)) : m_undone_steps [.list (r.map .int)] = some (.ret (.list ((und r).map .int))) := by
  refine Wp.eq ?_
  have hl : r.length = b := by rw [hr.length_eq, rnds_len]
  have nd : r.Nodup := hr.nodup_iff.mpr (rnds_nodup b)
  simp [m_undone_steps, l_undone_steps_1]
  refine ⟨by omega, ?_⟩
  refine wp_forE PyData.int r (fun i δ => ∃ (A : List Int) (s2 s3 : Slot), δ = [.sh (.list (r.map .int)), .ow (.lst (A.map .int)), s2, s3] ∧ A.length = r.length ∧ ∀ (j : Nat) (x : Int), j < i → r[j]? = some x → A[x.toNat]? = some (j : Int)) ⟨List.replicate r.length 0, .no, .no, by simp, by simp, fun j x h => by omega⟩ ?_ ?_
  · rintro i x δ hx ⟨A, s2, s3, rfl, hA, hj⟩
    have xb := rnds_mem (hr.mem_iff.mp (List.mem_of_getElem? hx))
    obtain ⟨k, rfl⟩ : ∃ k : Nat, x = k := ⟨x.toNat, by omega⟩
    simp
    refine wp_ixN (by omega) ?_
    refine ⟨A.set k i, by simp [List.map_set], by simp [hA], fun j y hji hy => ?_⟩
    have yb := rnds_mem (hr.mem_iff.mp (List.mem_of_getElem? hy))
    obtain ⟨m, rfl⟩ : ∃ m : Nat, y = m := ⟨y.toNat, by omega⟩
    rw [Int.toNat_natCast]
    by_cases e : j = i
    · subst e
      rw [hx] at hy
      have : k = m := by
        have := Option.some.inj hy
        omega
      subst this
      rw [List.getElem?_set_self (by omega)]
    · have hne : k ≠ m := fun z => by
        subst z
        exact e ((List.getElem?_inj (List.getElem?_eq_some_iff.mp hy).1 nd).mp (hy.trans hx.symm))
      rw [List.getElem?_set_ne hne]
      have := hj j m (by omega) hy
      simpa using this
  · rintro δ ⟨A, s2, s3, rfl, hA, hj⟩
    simp
    have : A = und r := by
      refine List.ext_getElem? fun k => ?_
      rcases Nat.lt_or_ge k r.length with h | h
      · have hm : (k : Int) ∈ r := hr.mem_iff.mpr (List.mem_map.mpr ⟨k, List.mem_range.mpr (by omega), rfl⟩)
        have hi := List.idxOf_lt_length_iff.mpr hm
        have hg : r[r.idxOf (k : Int)]? = some (k : Int) := by rw [List.getElem?_eq_getElem hi, List.getElem_idxOf hi]
        have := hj _ _ hi hg
        rw [Int.toNat_natCast] at this
        rw [this]
        unfold und
        simp [h]
      · have hu : (und r).length = r.length := by simp [und]
        rw [List.getElem?_eq_none (l := A) (by rw [hA]; exact h), List.getElem?_eq_none (l := und r) (by rw [hu]; exact h)]
    rw [this]
theorem col_perm (h : Tb T n w) {k : Nat} (hk : k < w) : (col T k).Perm (rnds n) := by
  have := nx_perm h (on_rep h hk)
  rwa [nxt_rep h hk] at this
theorem w_col (h : Tb T n w) {k : Nat} (hk : k < w) {vs : List Nat} {δ : DE} {j i2 : Nat} {Q : List D × DE → Prop} {gg : MG} {f : M}
    (hs : ∀ r ∈ T, Wp (gg (tI r) δ) fun δ1 => Wp (f δ1) fun q => q.1 = .int (r.getD k 0) ∧ wipeD q.2 vs = δ) (q : Q ((col T k).map .int, δ)) : Wp (cRun gg tTrue f vs (T.map tI) δ) Q := by
  refine wp_cAll tI T (fun r => .int (r.getD k 0)) rfl hs ?_
  have : (T.map fun r => (.int (r.getD k 0) : D)) = (col T k).map .int := by simp [col]
  rw [this]
  exact q
theorem undone_way_ok (h : Tb T n w) (h2 : two < w) : m_undone_way [tbD T, .int (two : Nat)] = some (.ret (.list ((und (col T two)).map .int))) := by
  have n2 := h.n2
  have hl := h.len
  refine Wp.eq ?_
  simp [m_undone_way, tbD]
  refine ⟨by omega, ?_⟩
  refine wp_cAll tI T (fun r => .int (r.getD two 0)) rfl (fun r hr => ?_) ?_
  · have := h.wid r hr
    simp
    refine wp_atI (by omega) ?_
    simp [List.getElem?_eq_getElem (show two < r.length by omega)]
  · have e : (T.map fun r => (.int (r.getD two 0) : D)) = (col T two).map .int := by simp [col]
    rw [e]
    refine wp_of_eq (undone_l n2 (col_perm h h2)) ?_
    simp
theorem und_fo (h : Tb T n w) (h1 : one < w) (h2 : two < w) {i : Nat} (hi : i < n) {Q : Int → Prop} (q : Q ((fo T n one two i : Nat) : Int)) : Wp (atI (und (col T two)) (En T i one)) Q := by
  have n2 := h.n2
  have hl := h.len
  obtain ⟨f1, f2⟩ := fo_ok h h1 h2 hi
  have p2 := col_perm h h2
  have hm : En T i one ∈ rnds n := by
    refine (col_perm h h1).mem_iff.mp (List.mem_map.mpr ⟨T.getD i [], row_mem h hi, rfl⟩)
  refine und_get (n := n) (by omega) p2 hm ?_
  have e : (col T two).idxOf (En T i one) = fo T n one two i := by
    have nd : (col T two).Nodup := h.nod two h2
    have cl : (col T two).length = n := by rw [col, List.length_map, hl]
    have g : (col T two)[fo T n one two i]? = some (En T i one) := by
      rw [← f2]
      unfold col En
      rw [List.getElem?_map, List.getElem?_eq_getElem (by omega), List.getD_eq_getElem?_getD (l := T), List.getElem?_eq_getElem (by omega)]
      rfl
    have hmm : En T i one ∈ col T two := List.mem_of_getElem? g
    have hi' := List.idxOf_lt_length_iff.mpr hmm
    refine (List.getElem?_inj hi' nd).mp ?_
    rw [g, List.getElem?_eq_getElem hi', List.getElem_idxOf hi']
  rw [e]
  exact q
theorem zipIdx_get (h : Tb T n w) {r : List Int} {i : Nat} (hm : (r, i) ∈ T.zipIdx) : i < n ∧ r = T.getD i [] := by
  have hl := h.len
  obtain ⟨a, b⟩ := List.mem_zipIdx' hm
  exact ⟨by omega, by rw [List.getD_eq_getElem?_getD, List.getElem?_eq_getElem a]; exact b⟩
theorem map_range (h : Tb T n w) {α : Type} (f : List Int → Nat → α) : (T.zipIdx.map fun p => f p.1 p.2) = (List.range n).map fun i => f (T.getD i []) i := by
  have hl := h.len
  apply List.ext_getElem
  · simp [hl]
  · intro m h1 h2
    simp at h1 h2 ⊢
    rw [List.getElem?_eq_getElem (by omega)]
    rfl
theorem map_rows (h : Tb T n w) {α : Type} (f : List Int → α) : T.map f = (List.range n).map fun i => f (T.getD i []) := by
  have hl := h.len
  apply List.ext_getElem
  · simp [hl]
  · intro m h1 h2
    simp at h1 h2 ⊢
    rw [List.getElem?_eq_getElem (by omega)]
    rfl
theorem followers_ok (h : Tb T n w) (h1 : one < w) (h2 : two < w) : m_followers [tbD T, .int (one : Nat), .int (two : Nat)] = some (.ret (.list (nD ((List.range n).map (fo T n one two))))) := by
  have n2 := h.n2
  have hl := h.len
  refine Wp.eq ?_
  simp [m_followers]
  refine wp_of_eq (undone_way_ok h h2) ?_
  simp [tbD]
  refine ⟨by omega, ?_⟩
  refine wp_cAll (fun i : Nat => tI (T.getD i [])) (List.range n) (fun i => .int ((fo T n one two i : Nat) : Int)) (map_rows h tI) (fun i hi => ?_) ?_
  · have hi : i < n := by simpa using hi
    simp
    refine w_ent h hi h1 ?_
    refine und_fo h h1 h2 hi ?_
    simp
  · simp [nD]
variable {T : List (List Int)} {n w : Nat} {c : List Nat} {one two : Nat}
def couldC (w n : Nat) : D → Bool
  | .tuple ds => ds.all (isIx w) && decide (ds.length = n)
  | _ => false
theorem could_eq (h : Tb T n w) {v : D} (hv : ND1 v) : m_could_choose [tbD T, v] = some (.ret (.bool (couldC w n v))) := by
  refine Wp.eq ?_
  simp [m_could_choose]
  refine head_tb h fun r hr => ?_
  simp [hr]
  refine wp_of_eq (are_indices_eq v (w : Int) hv) ?_
  cases v with
  | tuple ds =>
    have dl : decide ((ds.length : Int) = (n : Int)) = decide (ds.length = n) := by
      rw [decide_eq_decide]
      omega
    cases ha : ds.all (isIx (w : Int)) <;> simp [areIx, ha, len_tb h, couldC, dl]
  | _ => simp [areIx, couldC]
theorem isWh_isIx (w : Nat) (d : D) : isWh 0 ((w : Int) - 1) d = isIx (w : Int) d := by
  cases d <;> simp only [isWh, isIx]
  rename_i i
  congr 1
  rw [decide_eq_decide]
  omega
/-- two numbers that meet -/
def Meet (N : List Int) (d : D) : Prop := (d = .none ∧ N.Nodup) ∨ ∃ i j, i < j ∧ j < N.length ∧ N.getD i 0 = N.getD j 0 ∧ d = .tuple [.int (i : Nat), .int (j : Nat)]
theorem Meet.none {N : List Int} {d : D} (h : Meet N d) : isNone d = decide N.Nodup := by
  rcases h with ⟨rfl, nd⟩ | ⟨i, j, hij, hj, e, rfl⟩
  · simp [nd]
  · have : ¬ N.Nodup := fun nd => by
      have h1 : N[i]? = N[j]? := by
        rw [List.getElem?_eq_getElem (by omega), List.getElem?_eq_getElem hj]
        rw [List.getD_eq_getElem?_getD, List.getD_eq_getElem?_getD, List.getElem?_eq_getElem (by omega), List.getElem?_eq_getElem hj] at e
        exact congrArg some e
      have := (List.getElem?_inj (by omega) nd).mp h1
      omega
    simp [this]
theorem meeting_full (h : Tb T n w) (hc : Ch c n w) : ∃ d, m_first_meeting [tbD T, cD c] = some (.ret d) ∧ Meet (nxt T c) d := by
  refine wp_retE ?_
  have n2 := h.n2
  have nl := nxt_len h hc.len
  simp [m_first_meeting]
  refine wp_of_eq (ends_by_ok h hc.len hc.lt) ?_
  simp
  generalize nxt T c = N at *
  refine wp_forE PyData.int N (fun i δ => ∃ (kk : List (Int × D)) (s3 s4 : Pd.Slot), δ = [.sh (tbD T), .sh (cD c), .ow (.dct (dI kk)), s3, s4] ∧ (N.take i).Nodup ∧ kk.length ≤ i ∧ (∀ e, (valT kk e).isSome = true ↔ e ∈ N.take i) ∧ ∀ e v, valT kk e = some v → ∃ j, j < i ∧ N.getD j 0 = e ∧ v = .int ((j : Nat) : Int)) ⟨[], .no, .no, rfl, by simp, by simp, by simp, by simp⟩ ?_ ?_
  · rintro i x δ hx ⟨kk, s3, s4, rfl, nd, kl, hk, hv⟩
    obtain ⟨hi, hxi⟩ := List.getElem?_eq_some_iff.mp hx
    have et : N.take (i + 1) = N.take i ++ [x] := by
      rw [List.take_succ, hx]
      rfl
    simp [l_first_meeting_1]
    constructor
    · intro hs
      obtain ⟨v, hvv⟩ := Option.isSome_iff_exists.mp hs
      obtain ⟨j, hj, ej, rfl⟩ := hv x v hvv
      rw [hvv]
      simp
      refine .inr ⟨j, i, hj, hi, ?_, rfl⟩
      rw [ej, List.getD_eq_getElem?_getD, hx]
      rfl
    · intro hs
      refine ⟨by omega, putT kk x (.int (i : Nat)), rfl, ?_, ?_, ?_, ?_⟩
      · rw [et, List.nodup_append]
        refine ⟨nd, by simp, fun a ha z hz e => ?_⟩
        simp at hz
        subst hz e
        have := (hk a).mpr ha
        rw [hs] at this
        cases this
      · have := putT_len kk x (.int (i : Nat) : D)
        omega
      · intro e
        rw [valT_put, et]
        by_cases hex : e = x
        · simp [hex]
        · rw [if_neg hex, hk e]
          simp [hex]
      · intro e v ev
        rw [valT_put] at ev
        split at ev
        · rename_i hex
          cases ev
          refine ⟨i, by omega, ?_, rfl⟩
          simp [hx, hex]
        · obtain ⟨j, hj, q⟩ := hv e v ev
          exact ⟨j, by omega, q⟩
  · rintro δ ⟨kk, s3, s4, rfl, nd, kl, hk, hv⟩
    rw [List.take_of_length_le (Nat.le_refl _)] at nd
    simp
    exact .inl ⟨rfl, nd⟩
theorem two_meet_full (h : Tb T n w) (hc : Ch c n w) : ∃ d, m_two_that_meet [tbD T, cD c] = some (.ret d) ∧ Meet (nxt T c) d := by
  obtain ⟨d, e, hd⟩ := meeting_full h hc
  refine ⟨d, ?_, hd⟩
  refine Wp.eq ?_
  simp [m_two_that_meet]
  refine wp_of_eq (check_table_ok h) ?_
  simp
  refine wp_of_eq (check_choice_ok h hc) ?_
  simp
  refine wp_of_eq e ?_
  simp
theorem nd1_cD (hc : c.length ≤ 1000) : ND1 (cD c) := by
  rw [cD_tI]
  exact nd1_tI _ (by simp; omega)
theorem couldC_ch (hc : Ch c n w) : couldC w n (cD c) = true := by
  unfold couldC cD
  simp [hc.len, isIx]
  intro k hk
  have := hc.lt k hk
  omega
variable {T : List (List Int)} {n w : Nat} {c : List Nat} {one two : Nat}
variable {T : List (List Int)} {n w : Nat} {c : List Nat} {one two : Nat} {P : Nat → Nat}
theorem w_st {i : Nat} (hi : i < n) {Q : D → Prop} (q : Q (.int ((P i : Nat) : Int))) : Wp (atI (nD ((List.range n).map P)) (i : Int)) Q := by
  have e : (nD ((List.range n).map P))[i]? = some (.int ((P i : Nat) : Int)) := by
    unfold nD
    simp [hi]
  exact wp_of_eq (atI_nat e) q
theorem cycle_from_ok (h : Cy.PM P n) (hn : n ≤ 900) {a : Nat} (ha : a < n) : m_cycle_from [.list (nD ((List.range n).map P)), .int (a : Nat)] = some (.ret (rD (Cy.orb P n a))) := by
  obtain ⟨k, k1, k2, k3, k4, e⟩ := Cy.orb_spec h ha
  refine Wp.eq ?_
  simp [m_cycle_from]
  refine w_st ha ?_
  refine wp_while (fun m δ => ∃ j, j + m = k ∧ 1 ≤ j ∧ δ = [.sh (.list (nD ((List.range n).map P))), .sh (.int (a : Nat)), .ow (.lst ((List.range j).map fun i => (.int ((Cy.it P i a : Nat) : Int) : D))), .sh (.int ((Cy.it P j a : Nat) : Int))]) (k := k - 1) ⟨1, by omega, by omega, by simp [nD, Cy.it]⟩ (by omega) ?_
  rintro m δ ⟨j, hj, j1, rfl⟩
  simp
  refine ⟨fun z => ?_, fun z => ?_⟩
  · have : j = k := by
      rcases Nat.lt_or_ge j k with q | q
      · exact absurd (by omega) (k4 j j1 q)
      · omega
    subst this
    rw [e]
    simp [rD]
  · have : j < k := by
      rcases Nat.lt_or_ge j k with q | q
      · exact q
      · have e2 : j = k := by omega
        rw [e2, k3] at z
        omega
    simp [l_cycle_from_1]
    refine ⟨by omega, ?_⟩
    refine w_st (Cy.it_lt h ha j) ?_
    refine ⟨m - 1, by omega, j + 1, by omega, by omega, ?_⟩
    rw [List.range_succ]
    simp [Cy.it]
theorem cycles_from_ok (h : Cy.PM P n) (hn : n ≤ 900) : m_cycles_from [.list (nD ((List.range n).map P)), .list (nD (List.range n))] = some (.ret (.list ((Cy.cs P n (List.range n) []).map rD))) := by
  refine Wp.eq ?_
  simp [m_cycles_from]
  refine wp_forT (fun (i : Nat) => (.int (i : Int) : D)) (fun st δ => ∃ (kk : List (Int × D)) (acc : List (List Nat)) (seen : List Nat) (s4 s5 s6 : Pd.Slot), δ = [.sh (.list (nD ((List.range n).map P))), .sh (.list (nD (List.range n))), .ow (.dct (dI kk)), .ow (.lst (acc.map rD)), s4, s5, s6] ∧ KN n kk ∧ acc.length + st.length ≤ n ∧ (∀ s ∈ st, s < n) ∧ (∀ e : Nat, (valT kk (e : Int)).isSome = true ↔ e ∈ seen) ∧ acc ++ Cy.cs P n st seen = Cy.cs P n (List.range n) []) (List.range n) rfl ⟨[], [], [], .no, .no, .no, by simp [nD]; rfl, .nil, by simp, by simp, by simp, by simp⟩ ?_ ?_
  · rintro x st δ ⟨kk, acc, seen, s4, s5, s6, rfl, hk, hacc, hlt, hs, he⟩
    have hx := hlt x (by simp)
    have ht : ∀ s ∈ st, s < n := fun s hs => hlt s (List.mem_cons_of_mem _ hs)
    simp at hacc
    simp [l_cycles_from_1]
    refine ⟨fun z => ?_, fun z => ?_⟩
    · have hm : x ∉ seen := fun q => by
        have := (hs x).mpr q
        rw [z] at this
        cases this
      refine wp_of_eq (cycle_from_ok h hn hx) ?_
      simp
      refine ⟨by omega, ?_⟩
      simp [rD]
      refine wp_forT (fun (i : Nat) => (.int (i : Int) : D)) (fun st' δ => ∃ (kk' : List (Int × D)) (s6 : Pd.Slot), δ = [.sh (.list (nD ((List.range n).map P))), .sh (.list (nD (List.range n))), .ow (.dct (dI kk')), .ow (.lst ((acc ++ [Cy.orb P n x]).map rD)), .sh (.int (x : Nat)), .sh (rD (Cy.orb P n x)), s6] ∧ KN n kk' ∧ (∀ y ∈ st', y < n) ∧ (∀ e : Nat, ((valT kk' (e : Int)).isSome = true ∨ e ∈ st') ↔ e ∈ seen ++ Cy.orb P n x)) (Cy.orb P n x) rfl ⟨kk, s6, by simp [rD], hk, fun y hy => Cy.orb_lt h hx hy, fun e => by rw [hs e, List.mem_append]⟩ ?_ ?_
      · rintro y st' δ ⟨kk', s6, rfl, hk', hy, hs'⟩
        have hyn := hy y (by simp)
        have kl := hk'.len
        simp [l_cycles_from_2]
        refine ⟨by omega, putT kk' y (.bool true), rfl, hk'.put hyn _, fun z hz => hy z (List.mem_cons_of_mem _ hz), fun e => ?_⟩
        rw [valT_put, ← List.mem_append, ← hs' e]
        by_cases q : e = y
        · subst q; simp
        · have : ¬ ((e : Int) = (y : Int)) := by omega
          simp [this, q]
      · rintro δ ⟨kk', s6, rfl, hk', hy, hs'⟩
        simp
        refine ⟨kk', acc ++ [Cy.orb P n x], ⟨rfl, by simp [rD]⟩, hk', by simp; omega, ht, seen ++ Cy.orb P n x, fun e => by simpa using hs' e, ?_⟩
        rw [← he, cs_out hm]
        simp
    · have hm := (hs x).mp (by simpa using z)
      refine ⟨kk, acc, ⟨rfl, rfl⟩, hk, by omega, ht, seen, hs, ?_⟩
      rw [← he, cs_in hm]
  · rintro δ ⟨kk, acc, seen, s4, s5, s6, rfl, hk, hacc, hlt, hs, he⟩
    simp
    simp [Cy.cs] at he
    rw [he]
theorem cycles_of_ok (h : Cy.PM P n) (hn : n ≤ 900) : m_cycles_of [.list (nD ((List.range n).map P))] = some (.ret (.list ((Cy.cs P n (List.range n) []).map rD))) := by
  have hl : (nD ((List.range n).map P)).length = n := by simp [nD]
  refine Wp.eq ?_
  simp [m_cycles_of, hl, rg_nD, rg_ok (show (0 : Int) ≤ (n : Int) by omega) (show (n : Int) ≤ 99999 by omega)]
  refine wp_of_eq (cycles_from_ok h hn) ?_
  simp
theorem all_classes_ok (h : Tb T n w) (h1 : one < w) (h2 : two < w) : m_all_classes [tbD T, .int (one : Nat), .int (two : Nat)] = some (.ret (.list ((cls T n one two).map rD))) := by
  have n2 := h.n2
  refine Wp.eq ?_
  simp [m_all_classes]
  refine wp_of_eq (followers_ok h h1 h2) ?_
  simp
  refine wp_of_eq (cycles_of_ok (fo_pm h h1 h2) (by omega)) ?_
  simp [cls]
/-- the class with a number -/
def cwi (T : List (List Int)) (n one two a : Nat) : List Nat := ((cls T n one two).filter fun r => r.contains a).headD []
theorem cwi_ok {a : Nat} (ha : a < n) : ∃ s, s < n ∧ cwi T n one two a = Cy.orb (fo T n one two) n s ∧ a ∈ cwi T n one two a ∧ ((cls T n one two).filter fun r => r.contains a)[0]? = some (cwi T n one two a) := by
  obtain ⟨r, hr, har⟩ := cls_all (T := T) (one := one) (two := two) ha
  have hm : r ∈ (cls T n one two).filter fun r => r.contains a := List.mem_filter.mpr ⟨hr, by simpa using har⟩
  unfold cwi
  obtain ⟨x, l, e⟩ := List.exists_cons_of_ne_nil (List.ne_nil_of_mem hm)
  rw [e]
  have hx : x ∈ (cls T n one two).filter fun r => r.contains a := by rw [e]; simp
  obtain ⟨hx1, hx2⟩ := List.mem_filter.mp hx
  obtain ⟨s, hs, es⟩ := cls_in hx1
  exact ⟨s, hs, es, by simpa using hx2, rfl⟩
theorem own_ok {δ : DE} {f : M} {vs : List Nat} {gg : MG} {tf : MT} {a : Nat} {Q : List D × DE → Prop} (hs : ∀ r ∈ cls T n one two, Wp (gg (rD r) δ) fun δ1 => Wp (tf δ1) fun p => p.1 = r.contains a ∧ (r.contains a = true → Wp (f p.2) fun q => q.1 = rD r ∧ wipeD q.2 vs = δ) ∧ (r.contains a = false → wipeD p.2 vs = δ)) (q : Q (((cls T n one two).filter fun r => r.contains a).map rD, δ)) : Wp (cRun gg tf f vs ((cls T n one two).map rD) δ) Q :=
  wp_cMap rD (cls T n one two) (fun r => r.contains a) rD rfl hs q
end K20

namespace K20
open PySem PySem.Spec PyProof.Rows L2 Pd
variable {T : List (List Int)} {n w : Nat}
theorem w_way {xs : List D} (h : CupOk xs) {n : Nat} (h1 : 1 ≤ n) (h2 : n ≤ 24) {Q : D × List D → Prop} (q : ∀ (p : List Int) xs', p.Perm (rnds n) → CupOk xs' → Q (.list (p.map .int), xs')) : Wp (m_law_way xs [.int (n : Nat)]) Q := by
  have rk : rgOk 0 (n : Int) = true := by
    unfold rgOk
    simp
    omega
  simp [m_law_way, rk, rg_rn]
  refine w_roll h (by omega) (by omega) fun k x1 _ c1 => ?_
  simp
  refine ⟨fun hk => ?_, fun hk => ?_⟩
  · refine wp_for (fun rem δ => ∃ (p : List Int) (x : List D) (s3 s4 : Pd.Slot), δ = [.ow (.lst x), .sh (.int (n : Nat)), .ow (.lst (p.map .int)), s3, s4] ∧ p.Perm (rnds n) ∧ CupOk x ∧ ∀ d ∈ rem, ∃ i : Nat, d = .int (i : Nat) ∧ i < n) ⟨_, _, _, _, rfl, .refl _, c1, ?_⟩ ?_ ?_
    · intro d hd
      unfold rnds at hd
      simp at hd
      obtain ⟨i, hi, rfl⟩ := hd
      exact ⟨i, rfl, hi⟩
    · rintro d rem δ ⟨p, x, s3, s4, rfl, hp, hx, hd⟩
      obtain ⟨i, rfl, hi⟩ := hd d (List.mem_cons_self ..)
      have hl : p.length = n := hp.length_eq.trans (rnds_len n)
      simp [l_law_way_1]
      refine w_roll hx (by omega) (by omega) fun j x2 hj c2 => ?_
      have hj' : j < p.length := by omega
      have hi' : i < p.length := by omega
      simp
      refine wp_atI (by simpa using hj') ?_
      refine wp_atI (by simpa using hi') ?_
      refine wp_ixN (by simpa using hi') ?_
      refine wp_ixN (by simpa using hj') ?_
      refine ⟨_, _, ⟨rfl, swap_ints p i j hi' hj'⟩, (swap_perm p i j hi' hj').trans hp, c2, fun d hm => hd d (List.mem_cons_of_mem _ hm)⟩
    · rintro δ ⟨p, x, s3, s4, rfl, hp, hx, _⟩
      simp
      exact q p x hp hx
  · exact q _ x1 (.refl _) c1
theorem fin_table {n w : Nat} (h1 : 1 ≤ n) (h2 : n ≤ 24) (hw1 : 1 ≤ w) (hw2 : w ≤ 4) {Q : D × List D → Prop} (q : ∀ T xs', Tb T n w → CupOk xs' → Q (tbD T, xs')) {x : List D} {W : List (List Int)} (hx : CupOk x) (hl : W.length = w) (hW : ∀ p ∈ W, p.Perm (rnds n)) :
    Wp (s_law_table_2 [.ow (.lst x), .sh (.int (n : Nat)), .sh (.int (w : Nat)), .ow (.lst (W.map fun p => .list (p.map .int))), .no, .no, .no]) (cupK Q) := by
  have rk : rgOk 0 (n : Int) = true := by
    unfold rgOk
    simp
    omega
  simp [givD, rk, rg_rn, rnds_len]
  refine ⟨by omega, ?_⟩
  refine wp_cAll PyData.int (rnds n) (fun i => tI (W.map fun p => p.getD i.toNat 0)) rfl (fun i hi => ?_) ?_
  · obtain ⟨i0, i1⟩ := rnds_mem hi
    simp
    refine ⟨by omega, ?_⟩
    refine wp_cAll (fun p : List Int => PyData.list (p.map .int)) W (fun p => .int (p.getD i.toNat 0)) rfl (fun p hp => ?_) ?_
    · have pl : p.length = n := (hW p hp).length_eq.trans (rnds_len n)
      simp
      refine wp_atI_int i0 (by omega) ?_
      rw [List.getElem?_eq_getElem (by omega)]
      simp
    · simp [tI]
  · simp
    have e : (rnds n).map (fun i => tI (W.map fun p => p.getD i.toNat 0)) = (tbl n W).map tI := by
      unfold rnds tbl
      rw [List.map_map, List.map_map]
      refine List.map_congr_left fun k _ => ?_
      simp
    simp only [List.getD_eq_getElem?_getD] at e
    rw [e]
    have := tbl_ok h1 (show n ≤ 720 by omega) (W := W) (by omega) (by omega) hW
    rw [hl] at this
    exact q _ _ this hx
theorem w_table {xs : List D} (h : CupOk xs) {n w : Nat} (h1 : 1 ≤ n) (h2 : n ≤ 24) (hw1 : 1 ≤ w) (hw2 : w ≤ 4) {Q : D × List D → Prop} (q : ∀ T xs', Tb T n w → CupOk xs' → Q (tbD T, xs')) : Wp (m_law_table xs [.int (n : Nat), .int (w : Nat)]) Q := by
  have rk : rgOk 0 (n : Int) = true := by
    unfold rgOk
    simp
    omega
  have rw' : rgOk 0 (w : Int) = true := by
    unfold rgOk
    simp
    omega
  have rl : (rgD 0 (w : Int)).length = w := by
    rw [rg_rn, List.length_map, rnds_len]
  have rln : (rgD 0 (n : Int)).length = n := by
    rw [rg_rn, List.length_map, rnds_len]
  simp [m_law_table, rw', rl]
  refine ⟨by omega, ?_⟩
  refine wp_cRun (fun rem acc δ => ∃ (x : List D) (W : List (List Int)), δ = [.ow (.lst x), .sh (.int (n : Nat)), .sh (.int (w : Nat)), .no, .no, .no, .no] ∧ CupOk x ∧ acc = W.map (fun p => PyData.list (p.map .int)) ∧ W.length + rem.length = w ∧ ∀ p ∈ W, p.Perm (rnds n)) (acc := []) ⟨xs, [], rfl, h, rfl, by simpa using rl, by simp⟩ ?_ ?_
  · rintro d ds acc δ ⟨x, W, rfl, hx, rfl, hl, hW⟩
    simp [itemK]
    refine w_way hx h1 h2 fun p x2 hp c2 => ?_
    refine ⟨c2, W ++ [p], by simp, by simp at hl ⊢; omega, ?_⟩
    intro p' hp'
    rcases List.mem_append.mp hp' with z | z
    · exact hW _ z
    · rw [List.mem_singleton.mp z]
      exact hp
  · rintro ys δ ⟨x, W, rfl, hx, e, hl, hW⟩
    simp at e hl
    subst e
    have fin := fun (x : List D) (W : List (List Int)) (hx : CupOk x) (hl : W.length = w) (hW : ∀ p ∈ W, p.Perm (rnds n)) => fin_table h1 h2 hw1 hw2 q hx hl hW
    simp at fin ⊢
    refine ⟨fun hw => ?_, fun hw => fin x W hx hl hW⟩
    refine w_roll hx (by omega) (by omega) fun k x1 _ c1 => ?_
    simp
    refine ⟨fun hk => ?_, fun hk => fin x1 W c1 hl hW⟩
    refine wp_atI_int (by omega) (by omega) ?_
    have hn : ixN W.length (-1) = some (W.length - 1) := by
      unfold ixN
      simp
      omega
    refine wp_of_eq hn ?_
    rw [← List.map_set (f := fun p : List Int => PyData.list (p.map .int))]
    refine fin x1 _ c1 (by simpa using hl) fun p hp => ?_
    rcases List.mem_or_eq_of_mem_set hp with z | z
    · exact hW p z
    · rw [z]
      exact hW _ (List.getElem_mem _)
theorem all_ok (hn : n ≤ 8) (hw : w ≤ 2) : m_law_all [.int (n : Nat), .int (w : Nat)] = some (.ret (.list ((allC w n).map cD))) := by
  refine Wp.eq ?_
  have rk : rgOk 0 (n : Int) = true := by
    unfold rgOk
    simp
    omega
  have rkw : rgOk 0 (w : Int) = true := by
    unfold rgOk
    simp
    omega
  have rgw : rgD 0 (w : Int) = (List.range w).map fun (k : Nat) => PyData.int (k : Int) := by
    unfold rgD
    simp
  have big : ∀ m, m ≤ 8 → w ^ m ≤ 256 := fun m hm => Nat.le_trans (Nat.pow_le_pow_left hw m) (Nat.pow_le_pow_right (by omega) hm)
  simp [m_law_all, rk]
  refine wp_forI (fun i δ => ∃ (s3 s4 s5 : Pd.Slot), δ = [.sh (.int (n : Nat)), .sh (.int (w : Nat)), .sh (.list ((allC w i).map cD)), s3, .no, .no]) ⟨.no, .no, .no, rfl⟩ ?_ ?_
  · rintro i d δ hd ⟨s3, s4, s5, rfl⟩
    have hi : i < n := by
      have := (List.getElem?_eq_some_iff.mp hd).1
      rw [rg_rn, List.length_map, rnds_len] at this
      exact this
    have b0 := big i (by omega)
    have b1 := big (i + 1) (by omega)
    simp [l_law_all_1, allC_len]
    refine ⟨by omega, ?_⟩
    refine wp_cAll cD (allC w i) (fun r => .list ((List.range w).map fun k => cD (r ++ [k]))) rfl (fun r hr => ?_) ?_
    · obtain ⟨r1, _⟩ := allC_mem hr
      simp [rkw, rgw]
      refine ⟨by omega, ?_⟩
      refine wp_cAll (fun (k : Nat) => PyData.int (k : Int)) (List.range w) (fun k => cD (r ++ [k])) rfl (fun k hk => ?_) ?_
      · simp [cD]
        omega
      · simp
    · simp
      have hL : ∀ L : List (List Nat), listsD (L.map fun r => PyData.list ((List.range w).map fun k => cD (r ++ [k]))) = some (L.map fun r => (List.range w).map fun k => cD (r ++ [k])) := by
        intro L
        induction L with
        | nil => rfl
        | cons a L ih => simp [listsD, ih]
      refine wp_of_eq (hL _) ?_
      have hz : (List.map List.length (List.map (fun r => List.map (fun k => cD (r ++ [k])) (List.range w)) (allC w i))).sum = w ^ (i + 1) := by
        rw [← allC_len, allC, List.length_flatten, List.map_map, List.map_map]
        congr 1
        refine List.map_congr_left fun r _ => ?_
        simp
      refine ⟨by omega, ?_, ⟨_, .no, .no, rfl⟩⟩
      rw [allC, List.map_flatten, List.map_map]
      congr 1
      refine List.map_congr_left fun r _ => ?_
      simp
  · rintro δ ⟨s3, s4, s5, rfl⟩
    simp [rg_rn, rnds_len]
end K20

/-! lots that are joined till they are the cycles; cycles in their order; how many choices are the same throughout each. -/
namespace Pd
open PySem PySem.Spec PyProof.Rows L2
/-! ### lists of numbers, sorted -/
def stN (l : List Nat) : List Nat := (srt leI (rI l)).map Int.toNat
theorem rI_stN (l : List Nat) : rI (stN l) = srt leI (rI l) := by
  unfold rI stN
  rw [List.map_map]
  conv => rhs; rw [← List.map_id (srt leI _)]
  refine List.map_congr_left fun x hx => ?_
  have := (srt_perm (le := leI) (l.map fun (i : Nat) => (i : Int))).mem_iff.mp hx
  obtain ⟨i, _, rfl⟩ := List.mem_map.mp this
  simp
theorem stN_perm (l : List Nat) : (stN l).Perm l := by
  unfold stN
  refine ((srt_perm (le := leI) (rI l)).map Int.toNat).trans ?_
  unfold rI
  rw [List.map_map]
  have : (Int.toNat ∘ fun (i : Nat) => (i : Int)) = id := funext fun i => by simp
  rw [this, List.map_id]
theorem stN_congr {l m : List Nat} (h : l.Perm m) : stN l = stN m := by
  unfold stN
  congr 1
  refine srt_uniq leI_tot leI_tr leI_anti ?_ (srt_sorted leI_tot leI_tr _)
  exact (srt_perm (le := leI) (rI l)).trans (h.map _)
theorem stN_idem (l : List Nat) : stN (stN l) = stN l := stN_congr (stN_perm l)
theorem stN_one (k : Nat) : stN [k] = [k] := by
  have := stN_perm [k]
  exact List.perm_singleton.mp this
theorem stN_mem {l : List Nat} {x : Nat} : x ∈ stN l ↔ x ∈ l := (stN_perm l).mem_iff
theorem stN_head {l : List Nat} {a : Nat} (ha : a ∈ l) (hm : ∀ x ∈ l, a ≤ x) : ∃ t, stN l = a :: t := by
  have hs := srt_sorted leI_tot leI_tr (rI l)
  rw [← rI_stN] at hs
  cases e : stN l with
  | nil =>
    have := stN_mem.mpr ha
    rw [e] at this
    cases this
  | cons b t =>
    have hb : b ∈ l := stN_mem.mp (by rw [e]; exact List.mem_cons_self ..)
    have ha' := stN_mem.mpr ha
    rw [e] at ha' hs
    have h1 := hm b hb
    have h2 : b ≤ a := by
      rcases List.mem_cons.mp ha' with z | z
      · omega
      · have hp := (List.pairwise_cons.mp hs).1 (a : Int) (List.mem_map.mpr ⟨a, z, rfl⟩)
        have : (b : Int) ≤ (a : Int) := of_decide_eq_true hp
        omega
    exact ⟨t, by rw [show b = a by omega]⟩
/-! ### lots joined -/
def mergeL (L : List (List Nat)) (a b : Nat) : List (List Nat) := (L.filter fun l => !(l.contains a || l.contains b)) ++ [stN (L.filter fun l => l.contains a || l.contains b).flatten]
structure UF (P : Nat → Nat) (n : Nat) (L : List (List Nat)) (i : Nat) : Prop where
  pm : L.flatten.Perm (List.range n)
  ne : ∀ l ∈ L, l ≠ []
  st : ∀ l ∈ L, stN l = l
  wi : ∀ l ∈ L, ∀ x ∈ l, ∀ y ∈ l, y ∈ Cy.orb P n x
  dn : ∀ k, k < i → ∃ l ∈ L, k ∈ l ∧ P k ∈ l
section
variable {P : Nat → Nat} {n : Nat}
theorem UF.start : UF P n ((List.range n).map fun k => [k]) 0 where
  pm := by
    have : ((List.range n).map fun k => [k]).flatten = List.range n := by
      induction List.range n with
      | nil => rfl
      | cons a t ih => simp [ih]
    rw [this]
  ne := by
    intro l hl
    obtain ⟨k, _, rfl⟩ := List.mem_map.mp hl
    simp
  st := by
    intro l hl
    obtain ⟨k, _, rfl⟩ := List.mem_map.mp hl
    exact stN_one k
  wi := by
    intro l hl x hx y hy
    obtain ⟨k, _, rfl⟩ := List.mem_map.mp hl
    simp at hx hy
    rw [hx, hy]
    exact Cy.self_orb k
  dn := fun k h => by omega
theorem UF.lt {L : List (List Nat)} {i : Nat} (u : UF P n L i) {l : List Nat} (hl : l ∈ L) {x : Nat} (hx : x ∈ l) : x < n :=
  List.mem_range.mp (u.pm.mem_iff.mp (List.mem_flatten.mpr ⟨l, hl, hx⟩))
theorem UF.ex {L : List (List Nat)} {i : Nat} (u : UF P n L i) {x : Nat} (hx : x < n) : ∃ l ∈ L, x ∈ l :=
  List.mem_flatten.mp (u.pm.mem_iff.mpr (List.mem_range.mpr hx))
theorem UF.nd {L : List (List Nat)} {i : Nat} (u : UF P n L i) : L.flatten.Nodup := u.pm.nodup_iff.mpr List.nodup_range
theorem nd_same {L : List (List Nat)} (h : L.flatten.Nodup) {l m : List Nat} (hl : l ∈ L) (hm : m ∈ L) {x : Nat} (h1 : x ∈ l) (h2 : x ∈ m) : l = m := by
  obtain ⟨_, hp⟩ := List.pairwise_flatten.mp h
  obtain ⟨i, hi, rfl⟩ := List.getElem_of_mem hl
  obtain ⟨j, hj, rfl⟩ := List.getElem_of_mem hm
  rcases Nat.lt_trichotomy i j with z | z | z
  · exact absurd rfl ((List.pairwise_iff_getElem.mp hp) i j hi hj z x h1 x h2)
  · subst z; rfl
  · exact absurd rfl ((List.pairwise_iff_getElem.mp hp) j i hj hi z x h2 x h1)
theorem perm_split {L : List (List Nat)} (q : List Nat → Bool) : ((L.filter fun l => !q l).flatten ++ (L.filter q).flatten).Perm L.flatten := by
  induction L with
  | nil => simp
  | cons l L ih =>
    by_cases c : q l = true
    · simp only [List.filter_cons, c, Bool.not_true, Bool.false_eq_true, if_false, if_true, List.flatten_cons]
      refine List.Perm.trans ?_ (List.Perm.append_left l ih)
      rw [← List.append_assoc, ← List.append_assoc]
      exact List.Perm.append_right _ List.perm_append_comm
    · simp only [List.filter_cons, c, Bool.not_false, if_true, List.flatten_cons]
      rw [List.append_assoc]
      simpa using List.Perm.append_left l ih
theorem UF.step (hP : Cy.PM P n) {L : List (List Nat)} {i : Nat} (u : UF P n L i) (hi : i < n) : UF P n (mergeL L i (P i)) (i + 1) := by
  have hpi : P i < n := hP.1 i hi
  have big : ∀ {x : Nat}, x ∈ (L.filter fun l => l.contains i || l.contains (P i)).flatten → x ∈ Cy.orb P n i := by
    intro x hx
    obtain ⟨l, hl, hxl⟩ := List.mem_flatten.mp hx
    obtain ⟨hl, hc⟩ := List.mem_filter.mp hl
    rw [Bool.or_eq_true] at hc
    rcases hc with hc | hc
    · exact u.wi l hl i (List.contains_iff_mem.mp hc) x hxl
    · exact Cy.orb_trans hP hi (Cy.orb_next hP hi (Cy.self_orb i)) (u.wi l hl (P i) (List.contains_iff_mem.mp hc) x hxl)
  have inb : ∀ {x : Nat}, x = i ∨ x = P i → x ∈ (L.filter fun l => l.contains i || l.contains (P i)).flatten := by
    intro x hx
    obtain ⟨l, hl, hxl⟩ := u.ex (x := x) (by rcases hx with rfl | rfl <;> assumption)
    refine List.mem_flatten.mpr ⟨l, List.mem_filter.mpr ⟨hl, ?_⟩, hxl⟩
    rw [Bool.or_eq_true]
    rcases hx with rfl | rfl
    · exact .inl (List.contains_iff_mem.mpr hxl)
    · exact .inr (List.contains_iff_mem.mpr hxl)
  refine ⟨?_, fun l hl => ?_, fun l hl => ?_, fun l hl => ?_, fun k hk => ?_⟩
  · unfold mergeL
    rw [List.flatten_append, List.flatten_singleton]
    exact ((stN_perm _).append_left _).trans ((perm_split _).trans u.pm)
  · rcases List.mem_append.mp hl with z | z
    · exact u.ne l (List.mem_filter.mp z).1
    · rw [List.mem_singleton.mp z]
      intro e
      have := stN_mem.mpr (inb (x := i) (.inl rfl))
      rw [e] at this
      cases this
  · rcases List.mem_append.mp hl with z | z
    · exact u.st l (List.mem_filter.mp z).1
    · rw [List.mem_singleton.mp z]
      exact stN_idem _
  · rcases List.mem_append.mp hl with z | z
    · exact u.wi l (List.mem_filter.mp z).1
    · rw [List.mem_singleton.mp z]
      intro x hx y hy
      have h1 := big (stN_mem.mp hx)
      have h2 := big (stN_mem.mp hy)
      have xl := Cy.orb_lt hP hi h1
      exact Cy.orb_trans hP xl (Cy.orb_sym hP hi h1) h2
  · by_cases e : k = i
    · subst e
      exact ⟨_, List.mem_append_right _ (List.mem_singleton.mpr rfl), stN_mem.mpr (inb (.inl rfl)), stN_mem.mpr (inb (.inr rfl))⟩
    · obtain ⟨l, hl, h1, h2⟩ := u.dn k (by omega)
      by_cases c : (l.contains i || l.contains (P i)) = true
      · refine ⟨_, List.mem_append_right _ (List.mem_singleton.mpr rfl), stN_mem.mpr ?_, stN_mem.mpr ?_⟩ <;> exact List.mem_flatten.mpr ⟨l, List.mem_filter.mpr ⟨hl, c⟩, by assumption⟩
      · exact ⟨l, List.mem_append_left _ (List.mem_filter.mpr ⟨hl, by simpa using c⟩), h1, h2⟩
/-! ### cycles in their order -/
theorem cs_order (hP : Cy.PM P n) : ∀ (m k : Nat) (seen : List Nat), Seen P n seen → k + m ≤ n → (∀ x, x < k → x ∈ seen) →
    (∀ r ∈ Cy.cs P n (List.range' k m) seen, ∃ a, k ≤ a ∧ a < n ∧ r = Cy.orb P n a ∧ (∀ x ∈ r, a ≤ x)) ∧ (Cy.cs P n (List.range' k m) seen).Pairwise (fun r s => ∀ a b, a ∈ r → b ∈ s → (∀ x ∈ r, a ≤ x) → (∀ x ∈ s, b ≤ x) → a < b)
  | 0, k, seen, _, _, _ => by simp [Cy.cs]
  | m + 1, k, seen, hs, hk, hx => by
    rw [List.range'_succ]
    by_cases c : k ∈ seen
    · rw [cs_in c]
      have := cs_order hP m (k + 1) seen hs (by omega) fun x h => by
        rcases Nat.lt_or_ge x k with z | z
        · exact hx x z
        · rw [show x = k by omega]
          exact c
      exact ⟨fun r hr => by obtain ⟨a, h1, h2⟩ := this.1 r hr; exact ⟨a, by omega, h2⟩, this.2⟩
    · rw [cs_out c]
      have hkn : k < n := by omega
      have ap : ∀ x ∈ Cy.orb P n k, k ≤ x := by
        intro x hxo
        rcases Nat.lt_or_ge x k with z | z
        · exfalso
          refine c ?_
          exact hs.cl x (hx x z) k (Cy.orb_sym hP hkn hxo)
        · exact z
      have := cs_order hP m (k + 1) (seen ++ Cy.orb P n k) (hs.add hP hkn c) (by omega) fun x h => by
        rcases Nat.lt_or_ge x k with z | z
        · exact List.mem_append_left _ (hx x z)
        · rw [show x = k by omega]
          exact List.mem_append_right _ (Cy.self_orb k)
      refine ⟨fun r hr => ?_, List.pairwise_cons.mpr ⟨fun s hs2 a b ha hb hma hmb => ?_, this.2⟩⟩
      · rcases List.mem_cons.mp hr with rfl | hr
        · exact ⟨k, by omega, hkn, rfl, ap⟩
        · obtain ⟨a, h1, h2⟩ := this.1 r hr
          exact ⟨a, by omega, h2⟩
      · obtain ⟨a2, h1, h2, rfl, h3⟩ := this.1 s hs2
        have e1 : a ≤ k := hma k (Cy.self_orb k)
        have e2 : a2 ≤ b := h3 b hb
        omega
theorem cs_full (hP : Cy.PM P n) : (∀ r ∈ Cy.cs P n (List.range n) [], ∃ a, a < n ∧ r = Cy.orb P n a ∧ (∀ x ∈ r, a ≤ x)) ∧ (Cy.cs P n (List.range n) []).Pairwise (fun r s => ∀ a b, a ∈ r → b ∈ s → (∀ x ∈ r, a ≤ x) → (∀ x ∈ s, b ≤ x) → a < b) := by
  have := cs_order hP n 0 [] Seen.nil (by omega) (fun x h => by omega)
  rw [← List.range_eq_range'] at this
  exact ⟨fun r hr => by obtain ⟨a, _, h⟩ := this.1 r hr; exact ⟨a, h⟩, this.2⟩
theorem cs_disj (hP : Cy.PM P n) : (Cy.cs P n (List.range n) []).flatten.Nodup := by
  obtain ⟨h1, h2⟩ := cs_full hP
  rw [List.nodup_iff_pairwise_ne, List.pairwise_flatten]
  refine ⟨fun r hr => ?_, h2.imp_of_mem ?_⟩
  · obtain ⟨a, ha, rfl, _⟩ := h1 r hr
    exact List.nodup_iff_pairwise_ne.mp (Cy.orb_nodup hP ha)
  · intro r s hr hs h x hx y hy e
    subst e
    obtain ⟨a, ha, rfl, ma⟩ := h1 r hr
    obtain ⟨b, hb, rfl, mb⟩ := h1 s hs
    have h3 := h a b (Cy.self_orb a) (Cy.self_orb b) ma mb
    have h4 := ma b (Cy.orb_trans hP ha hx (Cy.orb_sym hP hb hy))
    have h5 := mb a (Cy.orb_trans hP hb hy (Cy.orb_sym hP ha hx))
    omega
/-- the ties: the cycles, each sorted -/
def ties (P : Nat → Nat) (n : Nat) : List (List Nat) := (Cy.cs P n (List.range n) []).map stN
theorem ties_sorted (hP : Cy.PM P n) : ((ties P n).map rI).Pairwise (leT · ·) := by
  obtain ⟨h1, h2⟩ := cs_full hP
  unfold ties
  rw [List.map_map]
  refine List.pairwise_map.mpr (h2.imp_of_mem ?_)
  intro r s hr hs h
  obtain ⟨a, ha, rfl, ma⟩ := h1 r hr
  obtain ⟨b, hb, rfl, mb⟩ := h1 s hs
  have h3 := h a b (Cy.self_orb a) (Cy.self_orb b) ma mb
  obtain ⟨t1, e1⟩ := stN_head (Cy.self_orb a) ma
  obtain ⟨t2, e2⟩ := stN_head (Cy.self_orb b) mb
  simp only [Function.comp, e1, e2, leT, rI, List.map_cons, HT.lexLt_cons]
  rw [if_neg (by omega)]
  simp
  omega
theorem UF.closed (hP : Cy.PM P n) {L : List (List Nat)} (u : UF P n L n) {l : List Nat} (hl : l ∈ L) {x : Nat} (hx : x ∈ l) : ∀ j, Cy.it P j x ∈ l
  | 0 => hx
  | j + 1 => by
    have ih := u.closed hP hl hx j
    obtain ⟨m, hm, h1, h2⟩ := u.dn (Cy.it P j x) (u.lt hl ih)
    have : m = l := nd_same u.nd hm hl h1 ih
    rw [← this]
    exact h2
theorem UF.same (hP : Cy.PM P n) {L : List (List Nat)} (u : UF P n L n) {l : List Nat} (hl : l ∈ L) {x a : Nat} (hx : x ∈ l) (ha : a < n) (hxa : x ∈ Cy.orb P n a) : stN (Cy.orb P n a) = l := by
  have ln : l.Nodup := List.Nodup.sublist (List.sublist_flatten_of_mem hl) u.nd
  have xl := u.lt hl hx
  rw [← u.st l hl]
  refine stN_congr ((List.perm_ext_iff_of_nodup (Cy.orb_nodup hP ha) ln).mpr fun y => ⟨fun hy => ?_, fun hy => ?_⟩)
  · obtain ⟨j, rfl⟩ := (Cy.mem_orb hP xl).mp (Cy.orb_trans hP xl (Cy.orb_sym hP ha hxa) hy)
    exact u.closed hP hl hx j
  · exact Cy.orb_trans hP ha hxa (u.wi l hl x hx y hy)
theorem UF.fin (hP : Cy.PM P n) {L : List (List Nat)} (u : UF P n L n) : srt leT (L.map rI) = (ties P n).map rI := by
  obtain ⟨h1, h2⟩ := cs_full hP
  refine (srt_uniq leT_tot leT_tr leT_anti ?_ (ties_sorted hP)).symm
  refine List.Perm.map _ ?_
  have nL : L.Nodup := by
    rw [List.nodup_iff_pairwise_ne, List.pairwise_iff_getElem]
    intro i j hi hj hij e
    have hne := u.ne L[i] (List.getElem_mem hi)
    obtain ⟨x, t, ex⟩ := List.exists_cons_of_ne_nil hne
    have hp := (List.pairwise_flatten.mp (List.nodup_iff_pairwise_ne.mp u.nd)).2
    have := (List.pairwise_iff_getElem.mp hp) i j hi hj hij x (by rw [ex]; exact List.mem_cons_self ..) x (by rw [← e, ex]; exact List.mem_cons_self ..)
    exact this rfl
  have nT : (ties P n).Nodup := by
    unfold ties
    rw [List.nodup_iff_pairwise_ne]
    refine List.pairwise_map.mpr (h2.imp_of_mem ?_)
    intro r s hr hs h e
    obtain ⟨a, ha, rfl, ma⟩ := h1 r hr
    obtain ⟨b, hb, rfl, mb⟩ := h1 s hs
    have h3 := h a b (Cy.self_orb a) (Cy.self_orb b) ma mb
    have h4 : b ∈ Cy.orb P n a := stN_mem.mp (by rw [e]; exact stN_mem.mpr (Cy.self_orb b))
    have h5 : a ∈ Cy.orb P n b := stN_mem.mp (by rw [← e]; exact stN_mem.mpr (Cy.self_orb a))
    have := ma b h4
    have := mb a h5
    omega
  refine (List.perm_ext_iff_of_nodup nT nL).mpr fun l => ⟨fun hl => ?_, fun hl => ?_⟩
  · obtain ⟨r, hr, rfl⟩ := List.mem_map.mp hl
    obtain ⟨a, ha, rfl, _⟩ := h1 r hr
    obtain ⟨m, hm, ham⟩ := u.ex ha
    rw [u.same hP hm ham ha (Cy.self_orb a)]
    exact hm
  · obtain ⟨x, t, ex⟩ := List.exists_cons_of_ne_nil (u.ne l hl)
    have hx : x ∈ l := by rw [ex]; exact List.mem_cons_self ..
    have xl := u.lt hl hx
    rcases cs_cover (P := P) (n := n) (List.range n) [] x (List.mem_range.mpr xl) with z | ⟨r, hr, hxr⟩
    · cases z
    · obtain ⟨a, ha, rfl, _⟩ := h1 r hr
      exact List.mem_map.mpr ⟨_, hr, u.same hP hl hx ha hxr⟩
end
/-! ### how many choices are the same throughout each -/
theorem allC_iff {w : Nat} : ∀ {m : Nat} {c : List Nat}, c ∈ allC w m ↔ c.length = m ∧ ∀ k ∈ c, k < w := by
  intro m
  induction m with
  | zero =>
    intro c
    refine ⟨allC_mem, fun h => ?_⟩
    rw [List.length_eq_zero_iff.mp h.1]
    simp [allC]
  | succ m ih =>
    intro c
    refine ⟨allC_mem, fun h => ?_⟩
    have hne : c ≠ [] := fun z => by rw [z] at h; simp at h
    rw [← List.dropLast_concat_getLast hne]
    simp only [allC, List.mem_flatten, List.mem_map]
    refine ⟨_, ⟨c.dropLast, ih.mpr ⟨by simp [h.1], fun k hk => h.2 k (List.dropLast_subset _ hk)⟩, rfl⟩, List.mem_map.mpr ⟨c.getLast hne, List.mem_range.mpr (h.2 _ (List.getLast_mem hne)), rfl⟩⟩
theorem allC_nodup (w : Nat) : ∀ m : Nat, (allC w m).Nodup
  | 0 => by simp [allC]
  | m + 1 => by
    rw [allC, List.nodup_iff_pairwise_ne, List.pairwise_flatten]
    refine ⟨fun l hl => ?_, List.pairwise_map.mpr ((List.nodup_iff_pairwise_ne.mp (allC_nodup w m)).imp ?_)⟩
    · obtain ⟨r, _, rfl⟩ := List.mem_map.mp hl
      refine List.pairwise_map.mpr ((List.nodup_iff_pairwise_ne.mp List.nodup_range).imp ?_)
      intro a b hab e
      exact hab (by simpa using e)
    · intro r s hrs x hx y hy e
      obtain ⟨a, _, rfl⟩ := List.mem_map.mp hx
      obtain ⟨b, _, rfl⟩ := List.mem_map.mp hy
      exact hrs (List.append_inj_left' e rfl)
/-- the same throughout each of some lots -/
def sameEach (R : List (List Nat)) (c : List Nat) : Bool := R.all fun r => r.all fun x => r.all fun y => c.getD x 0 == c.getD y 0
def cho (R : List (List Nat)) (n : Nat) (q : List Nat) : List Nat := (List.range n).map fun i => q.getD (R.findIdx fun r => r.contains i) 0
theorem cho_get {R : List (List Nat)} {n : Nat} {q : List Nat} {i : Nat} (hi : i < n) : (cho R n q).getD i 0 = q.getD (R.findIdx fun r => r.contains i) 0 := by
  unfold cho
  rw [List.getD_eq_getElem?_getD, List.getElem?_map, List.getElem?_range hi]
  rfl
theorem fidx {R : List (List Nat)} (hd : R.flatten.Nodup) {j : Nat} (hj : j < R.length) {i : Nat} (hi : i ∈ R[j]) : (R.findIdx fun r => r.contains i) = j := by
  have hx : ∃ x ∈ R, (x.contains i) = true := ⟨R[j], List.getElem_mem hj, List.contains_iff_mem.mpr hi⟩
  have hlt := List.findIdx_lt_length_of_exists hx
  have hp := List.findIdx_getElem (w := hlt)
  have hm : i ∈ R[R.findIdx fun r => r.contains i] := List.contains_iff_mem.mp hp
  have e := nd_same hd (List.getElem_mem hlt) (List.getElem_mem hj) hm hi
  rcases Nat.lt_trichotomy (R.findIdx fun r => r.contains i) j with z | z | z
  · have := (List.pairwise_iff_getElem.mp (List.pairwise_flatten.mp (List.nodup_iff_pairwise_ne.mp hd)).2) _ _ hlt hj z i hm i hi
    exact absurd rfl this
  · exact z
  · have := (List.pairwise_iff_getElem.mp (List.pairwise_flatten.mp (List.nodup_iff_pairwise_ne.mp hd)).2) _ _ hj hlt z i hi i hm
    exact absurd rfl this
theorem count_same {R : List (List Nat)} {n w : Nat} (hd : R.flatten.Perm (List.range n)) (hne : ∀ r ∈ R, r ≠ []) : ((allC w n).filter (sameEach R)).length = w ^ R.length := by
  have nd : R.flatten.Nodup := hd.nodup_iff.mpr List.nodup_range
  have fin : ∀ {i : Nat}, i < n → ∃ j, ∃ hj : j < R.length, i ∈ R[j] := by
    intro i hi
    obtain ⟨r, hr, hir⟩ := List.mem_flatten.mp (hd.mem_iff.mpr (List.mem_range.mpr hi))
    obtain ⟨j, hj, rfl⟩ := List.getElem_of_mem hr
    exact ⟨j, hj, hir⟩
  have lt : ∀ {j : Nat} (hj : j < R.length) {i : Nat}, i ∈ R[j] → i < n := fun {j} hj {i} hi => List.mem_range.mp (hd.mem_iff.mp (List.mem_flatten.mpr ⟨_, List.getElem_mem hj, hi⟩))
  have pm : ((allC w n).filter (sameEach R)).Perm ((allC w R.length).map (cho R n)) := by
    refine (List.perm_ext_iff_of_nodup ((allC_nodup w n).filter _) ?_).mpr fun c => ⟨fun hc => ?_, fun hc => ?_⟩
    · rw [List.nodup_iff_pairwise_ne]
      refine List.pairwise_map.mpr ((List.nodup_iff_pairwise_ne.mp (allC_nodup w R.length)).imp_of_mem ?_)
      intro q s hq hs hqs e
      refine hqs (list_getD (allC_iff.mp hq).1 (allC_iff.mp hs).1 fun j hj => ?_)
      obtain ⟨i, t, ei⟩ := List.exists_cons_of_ne_nil (hne _ (List.getElem_mem hj))
      have hi : i ∈ R[j] := by rw [ei]; exact List.mem_cons_self ..
      have := congrArg (fun c : List Nat => c.getD i 0) e
      simp only [cho_get (lt hj hi), fidx nd hj hi] at this
      exact this
    · obtain ⟨h1, h2⟩ := List.mem_filter.mp hc
      obtain ⟨l1, l2⟩ := allC_iff.mp h1
      refine List.mem_map.mpr ⟨R.map fun r => c.getD (r.headD 0) 0, allC_iff.mpr ⟨by simp, fun k hk => ?_⟩, ?_⟩
      · obtain ⟨r, hr, rfl⟩ := List.mem_map.mp hk
        obtain ⟨j, hj, rfl⟩ := List.getElem_of_mem hr
        obtain ⟨i, t, ei⟩ := List.exists_cons_of_ne_nil (hne _ hr)
        have hi := lt hj (i := i) (by rw [ei]; exact List.mem_cons_self ..)
        rw [ei]
        simp only [List.headD_cons]
        exact l2 _ (getD_mem (by rw [l1]; exact hi))
      · refine list_getD (n := n) (by simp [cho]) l1 fun i hi => ?_
        obtain ⟨j, hj, hij⟩ := fin hi
        rw [cho_get hi, fidx nd hj hij]
        obtain ⟨a, t, ea⟩ := List.exists_cons_of_ne_nil (hne _ (List.getElem_mem hj))
        rw [List.getD_eq_getElem?_getD, List.getElem?_map, List.getElem?_eq_getElem hj]
        simp only [Option.map_some, Option.getD_some, ea, List.headD_cons]
        have := List.all_eq_true.mp (List.all_eq_true.mp (List.all_eq_true.mp h2 _ (List.getElem_mem hj)) a (by rw [ea]; exact List.mem_cons_self ..)) i hij
        exact eq_of_beq this
    · obtain ⟨q, hq, rfl⟩ := List.mem_map.mp hc
      obtain ⟨l1, l2⟩ := allC_iff.mp hq
      refine List.mem_filter.mpr ⟨allC_iff.mpr ⟨by simp [cho], fun k hk => ?_⟩, ?_⟩
      · obtain ⟨i, hi, rfl⟩ := List.mem_map.mp hk
        obtain ⟨j, hj, hij⟩ := fin (List.mem_range.mp hi)
        rw [fidx nd hj hij]
        exact l2 _ (getD_mem (by rw [l1]; exact hj))
      · refine List.all_eq_true.mpr fun r hr => List.all_eq_true.mpr fun x hx => List.all_eq_true.mpr fun y hy => ?_
        obtain ⟨j, hj, rfl⟩ := List.getElem_of_mem hr
        rw [cho_get (lt hj hx), cho_get (lt hj hy), fidx nd hj hx, fidx nd hj hy]
        exact beq_self_eq_true _
  rw [pm.length_eq, List.length_map, allC_len]
end Pd

namespace K20
open PySem PySem.Spec PyProof.Rows L2 Pd
variable {T : List (List Int)} {n : Nat}
abbrev PF (T : List (List Int)) (n : Nat) : Nat → Nat := fo T n 0 1
theorem pf_pm (h : Tb T n 2) : Cy.PM (PF T n) n := fo_pm h (by omega) (by omega)
theorem cls_cs : cls T n 0 1 = Cy.cs (PF T n) n (List.range n) [] := rfl
section
variable (h : Tb T n 2)
include h
theorem check_two_ok : m_check_two [tbD T] = some (.ret .none) := by
  refine Wp.eq ?_
  simp [m_check_two]
  refine wp_of_eq (check_table_ok h) ?_
  simp
  refine head_tb h fun r hr => ?_
  simp [hr]
theorem tb_720 : n ≤ 720 := by
  have := h.n2
  omega
theorem all_ties_ok : m_all_ties [tbD T] = some (.ret (.list ((ties (PF T n) n).map rD))) := by
  refine Wp.eq ?_
  have hl := cls_len (T := T) (n := n) (one := 0) (two := 1)
  have hn := tb_720 h
  simp [m_all_ties]
  refine wp_of_eq (show m_all_classes [tbD T, .int 0, .int 1] = _ from all_classes_ok h (one := 0) (two := 1) (by omega) (by omega)) ?_
  simp
  refine ⟨by omega, ?_⟩
  refine wp_cAll rD (cls T n 0 1) (fun r => rD (stN r)) rfl (fun r hr => ?_) ?_
  · simp [rD_tI]
    rw [rI_stN]
    simp [tI]
  · simp [ties, cls_cs]
theorem ties_of_ok : m_ties_of [tbD T] = some (.ret (.list ((ties (PF T n) n).map rD))) := by
  refine Wp.eq ?_
  simp [m_ties_of]
  refine wp_of_eq (check_two_ok h) ?_
  simp
  refine wp_of_eq (all_ties_ok h) ?_
  simp
end
theorem asc_nil (k : Int) : m_are_ascending [.tuple [], .int k] = some (.ret (.bool true)) := by
  refine Wp.eq ?_
  have e := are_indices_eq (.tuple []) k ⟨fun _ z => (by cases z), fun ds z => (by cases z; simp)⟩
  simp [m_are_ascending]
  refine wp_of_eq e ?_
  simp [areIx]
  rw [show zipD [] (Pd.cutD [] (some 1) none) = [] from rfl]
  simp [cRun]
  exact wp_of_eq rfl rfl
theorem told_nil (h : Tb T n 2) : m_check_told [tbD T, .tuple []] = some (.ret .none) := by
  refine Wp.eq ?_
  have hl := len_tb h
  simp [m_check_told, cRun]
  refine wp_of_eq (show uAll (.list []) = some (.bool true) from rfl) ?_
  simp [cRun]
  refine wp_of_eq hl ?_
  refine wp_of_eq (asc_nil _) ?_
  simp
  refine head_tb h fun r hr => ?_
  have e := are_indices_eq (.tuple []) (r.length : Int) ⟨fun _ z => (by cases z), fun ds z => (by cases z; simp)⟩
  simp
  refine wp_of_eq e ?_
  simp [areIx]
theorem apart_nil (R : List (List Nat)) (hR : R.length ≤ 1000) (hr : ∀ r ∈ R, r.length ≤ 1000) : m_first_apart [.list (R.map rD), .dict (kD [])] = some (.ret .none) := by
  refine Wp.eq ?_
  simp [m_first_apart]
  refine ⟨by omega, ?_⟩
  refine wp_cAll rD R (fun r => .none) rfl (fun r hm => ?_) ?_
  · have := hr r hm
    rw [show (rD r : D) = .tuple (nD r) from rfl]
    simp
    refine ⟨by simp [nD]; omega, ?_⟩
    refine wp_cMap (fun i : Nat => (.int (i : Int) : D)) r (fun _ => false) (fun _ => .none) rfl (fun i hi => ?_) ?_
    · simp
      exact wp_of_eq rfl rfl
    · rw [List.filter_eq_nil_iff.mpr (fun _ _ => by simp)]
      simp
      refine wp_of_eq (show m_first_unlike [.list [], .dict (kD [])] = some (.ret .none) from ?_) ?_
      · refine Wp.eq ?_
        simp [m_first_unlike, wp_forNil]
      · simp
  · simp
    refine ⟨by omega, ?_⟩
    refine wp_cMap (fun _ : List Nat => (.none : D)) R (fun _ => false) (fun _ => .none) rfl (fun i hi => ?_) ?_
    · simp
    · simp
theorem ties_len (h : Tb T n 2) : (ties (PF T n) n).length ≤ n := by
  have := cls_len (T := T) (n := n) (one := 0) (two := 1)
  unfold ties
  rw [List.length_map]
  exact this
theorem ties_r (h : Tb T n 2) : ∀ r ∈ ties (PF T n) n, r.length ≤ n ∧ r ≠ [] ∧ r.Nodup ∧ ∀ x ∈ r, x < n := by
  intro r hr
  obtain ⟨s, hs, rfl⟩ := List.mem_map.mp hr
  obtain ⟨a, ha, rfl⟩ := cls_in hs
  have hl := Cy.orb_len (pf_pm h) ha
  have pm := stN_perm (Cy.orb (PF T n) n a)
  refine ⟨by rw [pm.length_eq]; exact hl.2, fun z => ?_, pm.nodup_iff.mpr (Cy.orb_nodup (pf_pm h) ha), fun x hx => Cy.orb_lt (pf_pm h) ha (stN_mem.mp hx)⟩
  have := pm.length_eq
  rw [z] at this
  simp at this
  omega
theorem count_nil (h : Tb T n 2) (hn : n ≤ 20) : m_count_two [tbD T, .tuple []] = some (.ret (.int ((2 ^ (ties (PF T n) n).length : Nat) : Int))) := by
  refine Wp.eq ?_
  have tl := ties_len h
  have tr := ties_r h
  simp [m_count_two]
  refine wp_of_eq (check_two_ok h) ?_
  simp [t_count_two_1]
  refine wp_of_eq (told_nil h) ?_
  simp [t_count_two_2]
  refine wp_of_eq (all_ties_ok h) ?_
  simp [cRunD, t_count_two_3]
  refine wp_of_eq rfl ?_
  simp
  refine wp_of_eq (apart_nil _ (by omega) (fun r hr => by have := (tr r hr).1; omega)) ?_
  simp [t_count_two_4]
  refine ⟨by omega, ?_⟩
  refine wp_cMap rD (ties (PF T n) n) (fun _ => true) rD rfl (fun r hr => ?_) ?_
  · have := (tr r hr).1
    simp
    rw [show (rD r : D) = .tuple (nD r) from rfl]
    simp
    refine ⟨by simp [nD]; omega, ?_⟩
    refine wp_cAll (fun i : Nat => (.int (i : Int) : D)) r (fun _ => .bool false) rfl (fun i hi => ?_) ?_
    · simp
      exact wp_of_eq rfl rfl
    · simp
  · rw [List.filter_eq_self.mpr fun _ _ => rfl]
    simp
    generalize (ties (PF T n) n).length = k at *
    have s1 : small 1 = true := rfl
    simp [opShl, s1]
    omega
end K20

namespace K20
open PySem PySem.Spec PyProof.Rows L2 Pd
variable {T : List (List Int)} {n : Nat}
def lotD (l : List Nat) : D := .list (nD l)
theorem nD_rI (l : List Nat) : nD l = (Pd.rI l).map .int := by simp [nD, Pd.rI, Function.comp_def]
theorem lotD_ls (l : List Nat) : lotD l = lsD (Pd.rI l) := by rw [lotD, lsD, nD_rI]
@[simp] theorem shn_lot {k : Nat} {l : List Nat} : shn (k + 1) (lotD l) = true := by rw [lotD_ls]; simp
@[simp] theorem eqv_lot {a b : List Nat} : PyData.eqv (lotD a) (lotD b) = decide (a = b) := by
  rw [lotD, lotD, nD_rI, nD_rI]
  simp
  exact ⟨fun e => rI_inj e, fun e => by rw [e]⟩
@[simp] theorem wp_in_lot {QB : Bool → Prop} {i : Nat} {l : List Nat} : Wp (cInE (.int (i : Int)) (lotD l)) QB ↔ QB (l.contains i) := by
  rw [lotD, wp_cInE_l, in_nD]
  simp
theorem wp_in_lots {QB : Bool → Prop} {M : List (List Nat)} {l : List Nat} : Wp (cInE (lotD l) (.list (M.map lotD))) QB ↔ QB (M.contains l) := by
  rw [wp_cInE_l, cIn_l]
  have s1 : SeqAt.shaped (lotD l) = true := shn_lot (k := 63)
  have s2 : SeqAt.shaped (.list (M.map lotD)) = true := by
    show shn 64 _ = true
    simp
  rw [if_pos ⟨s1, s2⟩]
  simp only [wp_some]
  have : ((M.map lotD).any fun z => PyData.eqv z (lotD l)) = M.contains l := by
    induction M with
    | nil => rfl
    | cons a M ih =>
      have s3 : SeqAt.shaped (.list (M.map lotD)) = true := by
        show shn 64 _ = true
        simp
      rw [List.map_cons, List.any_cons, ih s3, List.contains_cons, eqv_lot]
      congr 1
      by_cases e : a = l
      · simp [e]
      · rw [decide_eq_false e]
        exact (beq_eq_false_iff_ne.mpr (fun z => e z.symm)).symm
  rw [this]
theorem lists_lot : ∀ M : List (List Nat), listsD (M.map lotD) = some (M.map nD)
  | [] => rfl
  | a :: M => by simp [listsD, lotD, ← lists_lot M]
def bt (i j : Nat) (l : List Nat) : Bool := l.contains i || l.contains j
theorem flat_nD : ∀ M : List (List Nat), (M.map nD).flatten = nD M.flatten
  | [] => rfl
  | a :: M => by simp [flat_nD M, nD]
theorem rg_get {n i : Nat} {d : D} (h : (rgD 0 (n : Int))[i]? = some d) : i < n ∧ d = .int (i : Int) := by
  rw [rg_nD] at h
  unfold nD at h
  rw [List.getElem?_map] at h
  have hl : i < n := by
    rcases Nat.lt_or_ge i n with z | z
    · exact z
    · rw [List.getElem?_eq_none (by simpa using z)] at h
      cases h
  rw [List.getElem?_range hl] at h
  exact ⟨hl, by simpa using h.symm⟩
theorem rg_len' {n : Nat} : (rgD 0 (n : Int)).length = n := by rw [rg_nD]; simp [nD]
theorem uf_len {P : Nat → Nat} {L : List (List Nat)} {k : Nat} (u : UF P n L k) : L.length ≤ n := by
  have hm := u.pm.length_eq
  rw [List.length_range] at hm
  rw [← hm]
  have ne := u.ne
  clear hm u
  induction L with
  | nil => simp
  | cons a L ih =>
    have h2 := ih fun l hl => ne l (List.mem_cons_of_mem _ hl)
    have h3 := List.length_pos_iff.mpr (ne a (List.mem_cons_self ..))
    rw [List.flatten_cons, List.length_append, List.length_cons]
    omega
section
variable (h : Tb T n 2) (hn : n ≤ 24)
include h hn
theorem ties_inner' {L : List (List Nat)} {i j : Nat} (hi : i < n) (hj : j < n) (k : Nat) (u : UF (PF T n) n L k) {s5 : Pd.Slot} {Q : Out → Prop}
    (q1 : j = PF T n i → ∀ s5, Q (.nx [.sh (tbD T), .sh (.list ((mergeL L i j).map lotD)), .sh (.int (i : Nat)), .sh (.int (j : Nat)), .no, s5, .no]))
    (q2 : j ≠ PF T n i → Q (.nx [.sh (tbD T), .sh (.list (L.map lotD)), .sh (.int (i : Nat)), .sh (.int (j : Nat)), .no, s5, .no])) :
    Wp (l_law_ties_2 [.sh (tbD T), .sh (.list (L.map lotD)), .sh (.int (i : Nat)), .sh (.int (j : Nat)), .no, s5, .no]) Q := by
  have h1 : (1 : Nat) < 2 := by omega
  have h0 : (0 : Nat) < 2 := by omega
  have hm := u.pm.length_eq
  rw [List.length_range] at hm
  have lenL : L.length ≤ n := uf_len u
  simp [l_law_ties_2]
  rw [show tbD T = .tuple (T.map tI) from rfl] at *
  simp
  refine w_rowT h hi ?_
  refine w_ent (k := 0) h hi h0 ?_
  refine w_rowT h hj ?_
  refine w_ent (k := 1) h hj h1 ?_
  constructor
  · intro e
    have ej : j = PF T n i := (fo_uniq h h0 h1 hi hj e.symm).symm
    refine ⟨by omega, ?_⟩
    refine wp_cMap lotD L (bt i j) lotD rfl (fun l hl => ?_) ?_
    · simp [bt]
      constructor
      · intro z
        exact .inl z
      · intro z z2
        exact absurd z2 z
    · have lf : (L.filter (bt i j)).length ≤ n := Nat.le_trans (List.length_filter_le ..) lenL
      have lf2 : (L.filter fun l => !bt i j l).length ≤ n := Nat.le_trans (List.length_filter_le ..) lenL
      simp
      refine ⟨by omega, ?_⟩
      refine wp_cMap lotD L (fun l => !bt i j l) lotD rfl (fun l hl => ?_) ?_
      · simp only [wp_gN, wp_fCmpT, wp_fVar, wp_cNotInE]
        simp
        have e1 : ((L.filter (bt i j)).contains l) = bt i j l := by
          rw [Bool.eq_iff_iff, List.contains_iff_mem, List.mem_filter]
          exact ⟨fun z => z.2, fun z => ⟨hl, z⟩⟩
        refine wp_in_lots.mpr ?_
        simp [e1]
        exact fun _ => hl
      · simp only [wp_fOp]
        simp
        refine wp_of_eq (lists_lot _) ?_
        rw [flat_nD, nD_rI]
        have ls : (List.map List.length ((L.filter (bt i j)).map nD)).sum ≤ n := by
          rw [← hm, ← List.length_flatten, flat_nD]
          have := (perm_split (L := L) (bt i j)).length_eq
          rw [List.length_append] at this
          rw [show ∀ x : List Nat, (nD x).length = x.length from fun x => by simp [nD]]
          omega
        refine ⟨by omega, ?_⟩
        simp
        refine ⟨by omega, ?_⟩
        have fin := q1 ej (.sh (.list ((L.filter (bt i j)).map lotD)))
        have e2 : ((mergeL L i j).map lotD) = ((L.filter fun l => !bt i j l).map lotD) ++ [.list ((srt leI (Pd.rI (L.filter (bt i j)).flatten)).map .int)] := by
          show ((L.filter fun l => !bt i j l) ++ [stN (L.filter (bt i j)).flatten]).map lotD = _
          rw [List.map_append, List.map_singleton, lotD, nD_rI, rI_stN]
        rw [e2] at fin
        exact fin
  · intro e
    refine q2 fun z => e ?_
    rw [z]
    exact (fo_ok h h0 h1 hi).2.symm
end
end K20

namespace K20
open PySem PySem.Spec PyProof.Rows L2 Pd
variable {T : List (List Int)} {n : Nat}
section
variable (h : Tb T n 2) (hn : n ≤ 24)
include h hn
theorem law_ties_ok : m_law_ties [tbD T] = some (.ret (.list ((ties (PF T n) n).map rD))) := by
  have hl := len_tb h
  have pm := pf_pm h
  refine Wp.eq ?_
  have rk : rgOk 0 (n : Int) = true := rg_ok (by omega) (by omega)
  simp [m_law_ties]
  refine wp_of_eq hl ?_
  simp [rk, rg_len']
  refine ⟨by omega, ?_⟩
  rw [rg_nD]
  refine wp_cAll (fun i : Nat => (.int (i : Int) : D)) (List.range n) (fun i => lotD [i]) rfl (fun i hi => ?_) ?_
  · simp [lotD, nD]
  simp
  refine wp_of_eq hl ?_
  simp [rk]
  refine wp_forI (fun i δ => ∃ (L : List (List Nat)) (s2 s3 s5 : Pd.Slot), UF (PF T n) n L i ∧ δ = [.sh (tbD T), .sh (.list (L.map lotD)), s2, s3, .no, s5, .no]) ⟨(List.range n).map fun k => [k], .no, .no, .no, UF.start, by simp [Function.comp_def]⟩ ?_ ?_
  · rintro i d δ hd ⟨L, s2, s3, s5, u, rfl⟩
    obtain ⟨hi, rfl⟩ := rg_get hd
    simp [l_law_ties_1]
    refine wp_of_eq hl ?_
    simp [rk]
    refine wp_forI (fun j δ => ∃ (L : List (List Nat)) (s3 s5 : Pd.Slot), (if PF T n i < j then UF (PF T n) n L (i + 1) else UF (PF T n) n L i) ∧ δ = [.sh (tbD T), .sh (.list (L.map lotD)), .sh (.int (i : Nat)), s3, .no, s5, .no]) ⟨L, s3, s5, by simpa using u, rfl⟩ ?_ ?_
    · rintro j d δ hd ⟨L, s3, s5, u, rfl⟩
      obtain ⟨hj, rfl⟩ := rg_get hd
      simp
      by_cases c : PF T n i < j
      · rw [if_pos c] at u
        refine ties_inner' h hn hi hj (i + 1) u (fun e => by omega) fun _ => ?_
        simp
        exact ⟨L, by rw [if_pos (by omega)]; exact u, rfl⟩
      · rw [if_neg c] at u
        refine ties_inner' h hn hi hj i u (fun e s5 => ?_) fun e => ?_
        · simp
          refine ⟨mergeL L i j, ?_, rfl⟩
          rw [if_pos (by omega), e]
          exact u.step pm hi
        · simp
          refine ⟨L, ?_, rfl⟩
          rw [if_neg (by omega)]
          exact u
    · rintro δ ⟨L, s3, s5, u, rfl⟩
      rw [rg_len'] at u
      rw [if_pos (pm.lt i hi)] at u
      simp
      exact ⟨L, u, rfl⟩
  · rintro δ ⟨L, s2, s3, s5, u, rfl⟩
    rw [rg_len'] at u
    have lL := uf_len u
    simp
    refine ⟨by omega, ?_⟩
    refine wp_cAll lotD L rD rfl (fun l hl => ?_) ?_
    · simp [lotD]
      rfl
    · rw [rD_map]
      have ne : ∀ ns ∈ L.map Pd.rI, ns ≠ [] := by
        intro ns hns
        obtain ⟨l, hl, rfl⟩ := List.mem_map.mp hns
        have := u.ne l hl
        simpa [Pd.rI] using this
      refine wp_of_eq (sort3_t ne) ?_
      rw [u.fin pm, ← rD_map]
end
end K20

namespace K20
open PySem PySem.Spec PyProof.Rows L2 Pd
variable {T : List (List Int)} {n : Nat}
def prT (c : List Nat) (r : List Nat) : Bool := decide (1 < cntI (r.map fun x => ((c.getD x 0 : Nat) : Int)))
theorem pr_same (c : List Nat) : ((ties (PF T n) n).filter (prT c)).isEmpty = sameEach (cls T n 0 1) c := by
  rw [Bool.eq_iff_iff, List.isEmpty_iff, List.filter_eq_nil_iff]
  unfold sameEach ties
  rw [List.all_eq_true]
  rw [← cls_cs]
  constructor
  · intro q r hr
    refine List.all_eq_true.mpr fun x hx => List.all_eq_true.mpr fun y hy => ?_
    have h1 := q (stN r) (List.mem_map.mpr ⟨r, hr, rfl⟩)
    unfold prT at h1
    simp only [decide_eq_true_eq] at h1
    rw [beq_iff_eq]
    apply Classical.byContradiction
    intro ne
    have := cnt_two (l := (stN r).map fun x => ((c.getD x 0 : Nat) : Int)) (List.mem_map.mpr ⟨x, stN_mem.mpr hx, rfl⟩) (List.mem_map.mpr ⟨y, stN_mem.mpr hy, rfl⟩) (by omega)
    omega
  · intro q s hs
    obtain ⟨r, hr, rfl⟩ := List.mem_map.mp hs
    have h1 := q r hr
    unfold prT
    simp only [decide_eq_true_eq]
    cases e : r with
    | nil =>
      rw [e] at *
      have : stN [] = [] := List.eq_nil_of_length_eq_zero (stN_perm []).length_eq
      rw [this]
      simp [cntI, ddI]
    | cons a t =>
      rw [← e]
      have := cnt_const (l := (stN r).map fun x => ((c.getD x 0 : Nat) : Int)) (v := ((c.getD a 0 : Nat) : Int)) fun z hz => by
        obtain ⟨x, hx, rfl⟩ := List.mem_map.mp hz
        have := List.all_eq_true.mp (List.all_eq_true.mp h1 x (stN_mem.mp hx)) a (by rw [e]; exact List.mem_cons_self ..)
        rw [beq_iff_eq] at this
        rw [this]
      omega
theorem ch_of {c : List Nat} (hc : c ∈ allC 2 n) : Ch c n 2 := by
  obtain ⟨l1, l2⟩ := allC_iff.mp hc
  exact ⟨l1, l2⟩
theorem so_iff (h : Tb T n 2) {c : List Nat} (hc : c ∈ allC 2 n) : sameEach (cls T n 0 1) c = decide (nxt T c).Nodup := by
  obtain ⟨l1, l2⟩ := allC_iff.mp hc
  have pm := pf_pm h
  have ht : ∀ k ∈ c, k = 0 ∨ k = 1 := fun k hk => by have := l2 k hk; omega
  rw [Bool.eq_iff_iff, decide_eq_true_iff]
  constructor
  · intro q
    have k : Kp T n 0 1 c := ⟨l1, ht, fun i hi => by
      obtain ⟨r, hr, hir⟩ := cls_all (T := T) (one := 0) (two := 1) hi
      obtain ⟨a, ha, rfl⟩ := cls_in hr
      have := List.all_eq_true.mp (List.all_eq_true.mp (List.all_eq_true.mp q _ hr) _ (Cy.orb_next pm ha hir)) i hir
      rwa [beq_iff_eq] at this⟩
    exact (k.on h (by omega) (by omega)).nd
  · intro nd
    have k := kp_of_on h (by omega) (by omega) (one := 0) (two := 1) ⟨ch_of hc, nd⟩ ht
    refine List.all_eq_true.mpr fun r hr => List.all_eq_true.mpr fun x hx => List.all_eq_true.mpr fun y hy => ?_
    obtain ⟨a, ha, rfl⟩ := cls_in hr
    rw [beq_iff_eq, kp_orb h (by omega) (by omega) k ha hx, kp_orb h (by omega) (by omega) k ha hy]
theorem count_all (h : Tb T n 2) : ((allC 2 n).filter (sameEach (cls T n 0 1))).length = 2 ^ (ties (PF T n) n).length := by
  have pm := pf_pm h
  have nd := cs_disj pm
  rw [← cls_cs] at nd
  rw [count_same (n := n) (w := 2) ?_ ?_]
  · unfold ties
    rw [List.length_map, cls_cs]
  · refine (List.perm_ext_iff_of_nodup nd List.nodup_range).mpr fun x => ?_
    rw [List.mem_flatten, List.mem_range]
    constructor
    · rintro ⟨r, hr, hx⟩
      obtain ⟨a, ha, rfl⟩ := cls_in hr
      exact Cy.orb_lt pm ha hx
    · exact fun hx => cls_all hx
  · intro r hr e
    obtain ⟨a, ha, rfl⟩ := cls_in hr
    have := Cy.self_orb (P := PF T n) (n := n) a
    rw [e] at this
    cases this
section
variable (h : Tb T n 2) (hn : n ≤ 6)
include h hn
theorem right_ok : m_law_right [tbD T] = some (.ret (.bool true)) := by
  have hl := len_tb h
  have tl := ties_len h
  have tr := ties_r h
  have big : (allC 2 n).length ≤ 64 := by
    rw [allC_len]
    exact Nat.pow_le_pow_right (by omega) hn
  refine Wp.eq ?_
  simp [m_law_right]
  refine wp_of_eq (law_ties_ok h (by omega)) ?_
  simp
  refine wp_of_eq hl ?_
  refine wp_of_eq (show m_law_all [.int (n : Nat), .int 2] = _ from all_ok (n := n) (w := 2) (by omega) (by omega)) ?_
  simp [t_law_right_1]
  refine wp_of_eq (is_table_ok h) ?_
  simp
  refine wp_of_eq (ties_of_ok h) ?_
  simp [t_law_right_2, t_law_right_3]
  refine wp_forT cD (fun rem δ => ∃ (don : List (List Nat)) (s2 s5 s6 : Pd.Slot), allC 2 n = don ++ rem ∧ δ = [.sh (tbD T), .sh (.int ((don.filter (sameEach (cls T n 0 1))).length : Nat)), s2, .sh (.list ((ties (PF T n) n).map rD)), .sh (.list ((allC 2 n).map cD)), s5, s6, .no, .no]) (allC 2 n) rfl ⟨[], .no, .no, .no, rfl, by simp⟩ ?_ ?_
  · rintro c rem δ ⟨don, s2, s5, s6, e, rfl⟩
    have hc : c ∈ allC 2 n := by rw [e]; simp
    obtain ⟨c1, c2⟩ := allC_iff.mp hc
    have hso := so_iff h hc
    simp [l_law_right_1]
    refine ⟨by omega, ?_⟩
    refine wp_cMap rD (ties (PF T n) n) (prT c) rD rfl (fun r hr => ?_) ?_
    · obtain ⟨r1, r2, r3, r4⟩ := tr r hr
      simp
      rw [show (rD r : D) = .tuple (nD r) from rfl]
      simp
      refine ⟨by simp [nD]; omega, ?_⟩
      refine wp_cAll (fun i : Nat => (.int (i : Int) : D)) r (fun x => .int ((c.getD x 0 : Nat) : Int)) rfl (fun x hx => ?_) ?_
      · have xl := r4 x hx
        simp
        rw [show (cD c : D) = .tuple (c.map fun k => .int (k : Nat)) from rfl]
        simp
        refine wp_atI (by omega) ?_
        simp [List.getElem?_eq_getElem (show x < c.length by omega)]
      · simp
        refine wp_of_eq (show intsD (r.map fun x => (.int ((c[x]?.getD 0 : Nat) : Int) : D)) = some (r.map fun x => ((c.getD x 0 : Nat) : Int)) from ?_) ?_
        · have := ints_ok (r.map fun x => ((c.getD x 0 : Nat) : Int))
          simpa [Function.comp_def] using this
        · simp [prT]
          omega
    · simp
      refine ⟨fun x r hr _ z => by rw [← z]; simp, ?_⟩
      rw [pr_same c, hso]
      generalize hb : decide (nxt T c).Nodup = b at *
      simp [l_law_right_1t1]
      obtain ⟨d, m1, m2⟩ := two_meet_ok h (ch_of hc)
      refine wp_of_eq m1 ?_
      simp [l_law_right_1t2, m2, hb]
      refine wp_of_eq (nexts_ok h c1 c2) ?_
      simp
      refine wp_of_eq (law_is_one_ok (by rw [nxt_len h c1]; omega)) ?_
      simp [hb, l_law_right_1t3]
      refine ⟨fun q => ⟨don ++ [c], by rw [e]; simp, ?_⟩, fun q => ⟨don ++ [c], by rw [e]; simp, ?_⟩⟩
      · rw [List.filter_append, List.length_append]
        simp [hso, q]
      · rw [List.filter_append, List.length_append]
        simp [hso, q]
  · rintro δ ⟨don, s2, s5, s6, e, rfl⟩
    simp at e
    subst e
    simp [t_law_right_4]
    refine wp_of_eq (count_nil h (by omega)) ?_
    simp
    rw [count_all h]
    push_cast
    rfl
end
end K20

namespace K20
open PySem PySem.Spec PyProof.Rows L2 Pd
theorem rest_ok (ns : List Int) (xs : List D) (s2 s3 : Pd.Slot) : lawRes (t_law_4 [.scr ns, .ow (.lst xs), s2, s3, .no]) = some (.bool true) := by
  kernel_rfl
theorem math (ns : List Int) (hl : ns.length ≤ 63) : m_law ns = some (.bool true) := by
  refine Wp.eq ?_
  simp [m_law]
  refine w_cup hl fun xs h0 => ?_
  simp [t_law_1]
  refine ⟨rfl, ?_⟩
  refine wp_for (fun rem δ => ∃ (cup : List D) (s2 : Pd.Slot), CupOk cup ∧ δ = [.scr ns, .ow (.lst cup), s2, .no, .no]) ⟨xs, .no, h0, rfl⟩ ?_ ?_
  · rintro d rem δ ⟨cup, s2, hc, rfl⟩
    simp [l_law_1]
    refine w_roll hc (by omega) (by omega) fun k c1 hk cc => ?_
    simp
    rw [show (1 : Int) + (k : Int) = ((1 + k : Nat) : Int) by push_cast; rfl]
    refine w_table (w := 2) cc (by omega) (by omega) (by omega) (by omega) fun T c2 hT c2c => ?_
    simp
    refine wp_of_eq (right_ok hT (by omega)) ?_
    simp
    exact c2c
  · rintro δ ⟨cup, s2, hc, rfl⟩
    simp [t_law_2]
    refine w_roll hc (by omega) (by omega) fun k c1 hk cc => ?_
    simp
    rw [show (7 : Int) + (k : Int) = ((7 + k : Nat) : Int) by push_cast; rfl]
    refine w_table (w := 2) cc (by omega) (by omega) (by omega) (by omega) fun T c2 hT c2c => ?_
    simp [t_law_3]
    refine wp_of_eq (ties_of_ok hT) ?_
    simp
    refine wp_of_eq (law_ties_ok hT (by omega)) ?_
    simp
    exact wp_lawK_of (rest_ok ns c2 s2 _)
end K20

namespace K20
open PySem PySem.Spec PyProof.Rows L2 Pd
@[reducible] def tab0 : Pd.TabSet := ⟨[]⟩
def lawSp (K : PySem.W.Frag) : Sp := @spL tab0 K m_law
theorem law_at {w : World} {K : PySem.W.Frag} {mg : Str → Option Value} {h : Heap} {fa f c : Addr} {oc : Value} {od an : Option Addr} {osl : Array (Option Value)} {kV doc pm ct : Value} (KX : K.In h) (G : h.Ns mainGlobals mg) (hfa : mg "law" = some (.ref fa)) (E : Env K mg)
    (a : PySem.W.nsIn K mainGlobals "law" = some (some (.ref f))) (l : K.lookup f = some ⟨oc, od, .func (PySem.W.fnOf "law" "law" (defArgs (topS 51)) (defBody (topS 51)) (defScope (topS 51)) .none kV doc pm an (.ref c) ct), osl⟩)
    (hc : PySem.W.codeIn K (.ref c) "law" = true) : ∃ fd : FuncData, (∀ (s : Shared) (u : Value), BindsTo s fd ⟨[u], []⟩ [("_law_script", u)]) ∧ ∀ base : Heap, K.In base → base.Ns mainGlobals mg → FnOk PySem.Challenge.rw_rungonce_k20_whole_ties_of_two_ways.prog w K mg base (L2.CX PySem.Challenge.rw_rungonce_k20_whole_ties_of_two_ways.prog w) 9 fa fd ["_law_script"] (lawSp K) := by
  have e := hfa.symm.trans (PySem.W.mg_of KX G a)
  cases e
  exact ⟨_, fun s u => .of_eq rfl, fun base _ _ => letI := tab0; d_law (Pt := c) E l hc⟩
theorem walk {q : Program} {loose : List Str} {XP : (Str → Option Value) → Heap → Prop} {YP : World → Heap → Prop} {d : DefRec} {K : Params → PySem.W.Frag} (hdf : d.params.defaults = []) (hY : ∀ (w : World) (h : Heap), YP w h → (K w.params).In h)
    (F : ∀ (w : World) (mg : Str → Option Value) (fa : Addr) (h : Heap), (K w.params).In h → h.Ns mainGlobals mg → mg d.name = some (.ref fa) → ∃ fd : FuncData, (∀ (s : Shared) (u : Value), BindsTo s fd ⟨[u], []⟩ [("_law_script", u)]) ∧ ∀ base : Heap, (K w.params).In base → base.Ns mainGlobals mg → FnOk PySem.Challenge.rw_rungonce_k20_whole_ties_of_two_ways.prog w (K w.params) mg base (L2.CX PySem.Challenge.rw_rungonce_k20_whole_ties_of_two_ways.prog w) 9 fa fd ["_law_script"] (lawSp (K w.params))) :
    PySem.W.WalkO q loose XP YP PySem.Challenge.rw_rungonce_k20_whole_ties_of_two_ways.row.toRowW d [] (fun f vs => PySem.call f vs) :=
  L2.walk_of (l := PySem.Challenge.rw_rungonce_k20_whole_ties_of_two_ways) (n := 63) (k := 9) (x := "_law_script") (CX := fun w => L2.CX PySem.Challenge.rw_rungonce_k20_whole_ties_of_two_ways.prog w) (sp := fun w => lawSp (K w.params)) rfl (by decide) hdf ⟨rfl, by decide, by decide⟩ hY F
    (fun w H a ns hl _ hS => letI := tab0; law_start (fun p hp => nomatch hp) hS (math ns hl)) fun w H s e s' z => Pd.no_cx H s e s' z
end K20
open PySem PySem.W PyProof.Rows
set_option maxHeartbeats 0 in
theorem PySem.Challenge.cw_rungonce_k20_whole_ties_of_two_ways_holds : PySem.Challenge.rw_rungonce_k20_whole_ties_of_two_ways.Holds := by
  w_on; o_law; k_head; (case hw => w_witness2)
  k_fill
  refine K20.walk rfl (fun w h Y => PySem.W.kIn_of Y) ?F
  case F =>
    intro w mg fa h KX G hmg
    refine' K20.law_at KX G hmg ?hE ?a ?l ?c
    (case a => k_is); (case l => k_is); (case c => k_is)
    case hE =>
      constructor
      · refine' Pd.funAt_of KX G ?a ?l ?c ?k (fun _ _ _ _ _ _ us hl => match us, hl with | [_], _ => rfl); (case a => k_is); (case l => k_is); (case c => k_is); (case k => k_is)
      · refine' Pd.funAt_of KX G ?a ?l ?c ?k (fun _ _ _ _ _ _ us hl => match us, hl with | [_, _], _ => rfl); (case a => k_is); (case l => k_is); (case c => k_is); (case k => k_is)
      · refine' Pd.funAt_of KX G ?a ?l ?c ?k (fun _ _ _ _ _ _ us hl => match us, hl with | [_, _], _ => rfl); (case a => k_is); (case l => k_is); (case c => k_is); (case k => k_is)
      · refine' Pd.funAt_of KX G ?a ?l ?c ?k (fun _ _ _ _ _ _ us hl => match us, hl with | [_, _], _ => rfl); (case a => k_is); (case l => k_is); (case c => k_is); (case k => k_is)
      · refine' Pd.funAt_of KX G ?a ?l ?c ?k (fun _ _ _ _ _ _ us hl => match us, hl with | [_, _], _ => rfl); (case a => k_is); (case l => k_is); (case c => k_is); (case k => k_is)
      · refine' Pd.funAt_of KX G ?a ?l ?c ?k (fun _ _ _ _ _ _ us hl => match us, hl with | [_, _], _ => rfl); (case a => k_is); (case l => k_is); (case c => k_is); (case k => k_is)
      · refine' Pd.funAt_of KX G ?a ?l ?c ?k (fun _ _ _ _ _ _ us hl => match us, hl with | [_], _ => rfl); (case a => k_is); (case l => k_is); (case c => k_is); (case k => k_is)
      · refine' Pd.funAt_of KX G ?a ?l ?c ?k (fun _ _ _ _ _ _ us hl => match us, hl with | [_], _ => rfl); (case a => k_is); (case l => k_is); (case c => k_is); (case k => k_is)
      · refine' Pd.funAt_of KX G ?a ?l ?c ?k (fun _ _ _ _ _ _ us hl => match us, hl with | [_, _], _ => rfl); (case a => k_is); (case l => k_is); (case c => k_is); (case k => k_is)
      · refine' Pd.funAt_of KX G ?a ?l ?c ?k (fun _ _ _ _ _ _ us hl => match us, hl with | [_], _ => rfl); (case a => k_is); (case l => k_is); (case c => k_is); (case k => k_is)
      · refine' Pd.funAt_of KX G ?a ?l ?c ?k (fun _ _ _ _ _ _ us hl => match us, hl with | [_, _], _ => rfl); (case a => k_is); (case l => k_is); (case c => k_is); (case k => k_is)
      · refine' Pd.funAt_of KX G ?a ?l ?c ?k (fun _ _ _ _ _ _ us hl => match us, hl with | [_, _], _ => rfl); (case a => k_is); (case l => k_is); (case c => k_is); (case k => k_is)
      · refine' Pd.funAt_of KX G ?a ?l ?c ?k (fun _ _ _ _ _ _ us hl => match us, hl with | [_, _], _ => rfl); (case a => k_is); (case l => k_is); (case c => k_is); (case k => k_is)
      · refine' Pd.funAt_of KX G ?a ?l ?c ?k (fun _ _ _ _ _ _ us hl => match us, hl with | [_, _], _ => rfl); (case a => k_is); (case l => k_is); (case c => k_is); (case k => k_is)
      · refine' Pd.funAt_of KX G ?a ?l ?c ?k (fun _ _ _ _ _ _ us hl => match us, hl with | [_], _ => rfl); (case a => k_is); (case l => k_is); (case c => k_is); (case k => k_is)
      · refine' Pd.funAt_of KX G ?a ?l ?c ?k (fun _ _ _ _ _ _ us hl => match us, hl with | [_, _], _ => rfl); (case a => k_is); (case l => k_is); (case c => k_is); (case k => k_is)
      · refine' Pd.funAt_of KX G ?a ?l ?c ?k (fun _ _ _ _ _ _ us hl => match us, hl with | [_, _], _ => rfl); (case a => k_is); (case l => k_is); (case c => k_is); (case k => k_is)
      · refine' Pd.funAt_of KX G ?a ?l ?c ?k (fun _ _ _ _ _ _ us hl => match us, hl with | [_, _, _], _ => rfl); (case a => k_is); (case l => k_is); (case c => k_is); (case k => k_is)
      · refine' Pd.funAt_of KX G ?a ?l ?c ?k (fun _ _ _ _ _ _ us hl => match us, hl with | [_, _, _], _ => rfl); (case a => k_is); (case l => k_is); (case c => k_is); (case k => k_is)
      · refine' Pd.funAt_of KX G ?a ?l ?c ?k (fun _ _ _ _ _ _ us hl => match us, hl with | [_], _ => rfl); (case a => k_is); (case l => k_is); (case c => k_is); (case k => k_is)
      · refine' Pd.funAt_of KX G ?a ?l ?c ?k (fun _ _ _ _ _ _ us hl => match us, hl with | [_, _], _ => rfl); (case a => k_is); (case l => k_is); (case c => k_is); (case k => k_is)
      · refine' Pd.funAt_of KX G ?a ?l ?c ?k (fun _ _ _ _ _ _ us hl => match us, hl with | [_], _ => rfl); (case a => k_is); (case l => k_is); (case c => k_is); (case k => k_is)
      · refine' Pd.funAt_of KX G ?a ?l ?c ?k (fun _ _ _ _ _ _ us hl => match us, hl with | [_, _], _ => rfl); (case a => k_is); (case l => k_is); (case c => k_is); (case k => k_is)
      · refine' Pd.funAt_of KX G ?a ?l ?c ?k (fun _ _ _ _ _ _ us hl => match us, hl with | [_], _ => rfl); (case a => k_is); (case l => k_is); (case c => k_is); (case k => k_is)
      · refine' Pd.funAt_of KX G ?a ?l ?c ?k (fun _ _ _ _ _ _ us hl => match us, hl with | [_, _], _ => rfl); (case a => k_is); (case l => k_is); (case c => k_is); (case k => k_is)
      · refine' Pd.funAt_of KX G ?a ?l ?c ?k (fun _ _ _ _ _ _ us hl => match us, hl with | [_], _ => rfl); (case a => k_is); (case l => k_is); (case c => k_is); (case k => k_is)
      · refine' Pd.funAt_of KX G ?a ?l ?c ?k (fun _ _ _ _ _ _ us hl => match us, hl with | [_, _], _ => rfl); (case a => k_is); (case l => k_is); (case c => k_is); (case k => k_is)
      · refine' Pd.funAt_of KX G ?a ?l ?c ?k (fun _ _ _ _ _ _ us hl => match us, hl with | [_, _], _ => rfl); (case a => k_is); (case l => k_is); (case c => k_is); (case k => k_is)
      · refine' Pd.funAt_of KX G ?a ?l ?c ?k (fun _ _ _ _ _ _ us hl => match us, hl with | [_], _ => rfl); (case a => k_is); (case l => k_is); (case c => k_is); (case k => k_is)
      · refine' Pd.funAt_of KX G ?a ?l ?c ?k (fun _ _ _ _ _ _ us hl => match us, hl with | [_, _], _ => rfl); (case a => k_is); (case l => k_is); (case c => k_is); (case k => k_is)
      · refine' Pd.funAt_of KX G ?a ?l ?c ?k (fun _ _ _ _ _ _ us hl => match us, hl with | [_, _, _], _ => rfl); (case a => k_is); (case l => k_is); (case c => k_is); (case k => k_is)
      · refine' Pd.funAt_of KX G ?a ?l ?c ?k (fun _ _ _ _ _ _ us hl => match us, hl with | [_, _], _ => rfl); (case a => k_is); (case l => k_is); (case c => k_is); (case k => k_is)
      · refine' Pd.funAt_of KX G ?a ?l ?c ?k (fun _ _ _ _ _ _ us hl => match us, hl with | [_], _ => rfl); (case a => k_is); (case l => k_is); (case c => k_is); (case k => k_is)
      · refine' Pd.funAt_of KX G ?a ?l ?c ?k (fun _ _ _ _ _ _ us hl => match us, hl with | [_], _ => rfl); (case a => k_is); (case l => k_is); (case c => k_is); (case k => k_is)
      · refine' Pd.funAt_of KX G ?a ?l ?c ?k (fun _ _ _ _ _ _ us hl => match us, hl with | [_], _ => rfl); (case a => k_is); (case l => k_is); (case c => k_is); (case k => k_is)
      · refine' PySem.W.mg_none_of KX G ?a; (case a => k_is)
      · refine' PySem.W.mg_none_of KX G ?a; (case a => k_is)
      · refine' PySem.W.mg_none_of KX G ?a; (case a => k_is)
      · refine' PySem.W.mg_none_of KX G ?a; (case a => k_is)
      · refine' PySem.W.mg_none_of KX G ?a; (case a => k_is)
      · refine' PySem.W.mg_none_of KX G ?a; (case a => k_is)
      · refine' PySem.W.mg_none_of KX G ?a; (case a => k_is)
      · refine' PySem.W.mg_none_of KX G ?a; (case a => k_is)
      · refine' PySem.W.mg_none_of KX G ?a; (case a => k_is)
      · refine' PySem.W.mg_none_of KX G ?a; (case a => k_is)
      · refine' PySem.W.mg_none_of KX G ?a; (case a => k_is)
      · refine' PySem.W.mg_none_of KX G ?a; (case a => k_is)
      · refine' PySem.W.mg_none_of KX G ?a; (case a => k_is)
      · refine' PySem.W.mg_none_of KX G ?a; (case a => k_is)
      · refine' PySem.W.mg_none_of KX G ?a; (case a => k_is)
      · refine' PySem.W.mg_none_of KX G ?a; (case a => k_is)
      · refine' Pd.excOk_of KX G ?a ?e ?k ?s ?t; (case a => k_is); (case e => kernel_rfl); (case k => k_is); (case s => k_is); (case t => k_is)
      · refine' Pd.excOk_of KX G ?a ?e ?k ?s ?t; (case a => k_is); (case e => kernel_rfl); (case k => k_is); (case s => k_is); (case t => k_is)
      · refine' Pd.excOk_of KX G ?a ?e ?k ?s ?t; (case a => k_is); (case e => kernel_rfl); (case k => k_is); (case s => k_is); (case t => k_is)
      · refine' Pd.excOk_of KX G ?a ?e ?k ?s ?t; (case a => k_is); (case e => kernel_rfl); (case k => k_is); (case s => k_is); (case t => k_is)
      · refine' Pd.global_of KX G ?a ?r; (case a => k_is); (case r => exact ⟨_, rfl⟩)
      · refine' Pd.global_of KX G ?a ?r; (case a => k_is); (case r => exact ⟨_, rfl⟩)
