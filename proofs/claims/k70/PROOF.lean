import PyProof.Rows.All
import Wide.All
import OpenK.AllK
import Wide.FinOn
import HandS.ForMost
import HandS.ForExc
import HandS.Evl
import HandS.Deep
import HandS.Rev
import HandS.Conv
import HandS.Lambda
import HandS.TupAny
import HandS.TupMul
import HandS.Strs
import HandS.Style
import HandS.IsInst
import HandS.Flow
import HandS.Zip
import HandS.SortInts
import HandS.NamedTupSort
import HandS.TryMany
import HandS.ExcOwn
import KE.GoesEnum
import HandS.Dict
import KE.KDictDisplayH
import HandS.Gcd
import KE.KMathGC
import KE.DataMinMax
import PyProof.SumAny
import HandS.ExcValue
import KE.SortData
import HandS.SetFor
import PyProof.ConsumeS
import PyProof.ListTruth
import HandS.DictComp
import HandS.HotCalls
import HandS.ExcIs
import HandS.EndTab
import KE.KNestM
import PySem.Challenge.RW_rungonce_k70_whole_tours_with_paths
set_option Elab.async false
set_option linter.all false
set_option maxRecDepth 100000
set_option maxHeartbeats 4000000
/-! Data in place of addresses: what a def does, told by functions on plain data. -/
namespace Sd
open PySem PySem.Spec PyProof.Rows L2
open Evl (Ex)
/-- the tables of code objects in which the text's lambdas are noted, each with its lambdas' name -/
class TabSet where
  T : List (Addr × Str)
def NTb (S : Hp) : Prop := ∀ b o, S b = some o → ∀ ps, o ≠ .tbl ps
theorem nt_upd {S : Hp} {p : Addr} {o : HO} (h : NTb S) (ho : ∀ ps, o ≠ .tbl ps) : NTb (upd S p o) := fun b u e => by
  by_cases hb : b = p
  · subst hb
    rw [upd_same] at e
    cases e
    exact ho
  · rw [upd_ne hb] at e
    exact h b u e
/-- the tables are as they should be, and none of them is shared -/
abbrev tabs [TabSet] (S H : Hp) : Prop := LamX.Tabs TabSet.T H ∧ NTb S
abbrev D := PyData

/-- the datum of a key -/
def keyD : L2.Key → D
  | .inl i => .int i
  | .inr x => .str x
def keysD (ks : List L2.Key) : D := .tuple (ks.map keyD)
/-- the data of a dict with plain keys; of one with tuples as keys, which is marked -/
def kD (kvs : List (L2.Key × D)) : List (D × D) := kvs.map fun p => (keyD p.1, p.2)
def tD (kvs : List (List L2.Key × D)) : List (D × D) := (.none, .none) :: kvs.map fun p => (keysD p.1, p.2)
/-! ### data: what stands at a value, whole -/
def tObj (its : Array Value) (n : Nat) : Obj := { cls := .type "tuple", data := .seq its n }
/-- a tuple, its object known -/
def Tp (H : Hp) (a : Addr) (xs : List V) : Prop := ∃ its n, H a = some (.frz (tObj its n) (.tup xs))
theorem Tp.sq {K : PySem.W.Frag} {H : Hp} {a : Addr} {xs : List V} (h : Tp H a xs) : SqT K H a xs := by
  obtain ⟨its, n, e⟩ := h
  exact .inl (.inr ⟨_, e⟩)
theorem Tp.inj {H : Hp} {a : Addr} {xs ys : List V} (h : Tp H a xs) (k : Tp H a ys) : xs = ys := by
  obtain ⟨i1, n1, e1⟩ := h
  obtain ⟨i2, n2, e2⟩ := k
  rw [e1] at e2
  injection e2 with e2
  injection e2 with _ e2
  injection e2
theorem Tp.ext {H H' : Hp} {a : Addr} {xs : List V} (e : ∀ b o, H b = some o → H' b = some o) (h : Tp H a xs) : Tp H' a xs := by
  obtain ⟨its, n, q⟩ := h
  exact ⟨its, n, e _ _ q⟩
/-- a pair that zip or enumerate made: its object is not known whole -/
def wK (ds : List D) : List (D × D) := [(.none, .none), (.none, .list ds)]
@[reducible] def wP (ds : List D) : D := .dict (wK ds)
mutual
inductive Dq (H : Hp) : V → D → Prop where
  | non : Dq H .non .none
  | bl (b : Bool) : Dq H (.bl b) (.bool b)
  | int (i : Int) : Dq H (.int i) (.int i)
  | str (x : Str) : Dq H (.str x) (.str x)
  | lst {a : Addr} {xs : List V} {ds : List D} : H a = some (.lst xs) → DqAll H xs ds → Dq H (.ref a) (.list ds)
  | tup {a : Addr} {xs : List V} {ds : List D} : Tp H a xs → DqAll H xs ds → Dq H (.ref a) (.tuple ds)
  | dcK {a : Addr} {kws : List (L2.Key × V)} {kvs : List (L2.Key × D)} : H a = some (.dK kws) → kws.map (·.1) = kvs.map (·.1) → DqAll H (kws.map (·.2)) (kvs.map (·.2)) → Dq H (.ref a) (.dict (kD kvs))
  | dcT {a : Addr} {kws : List (List L2.Key × V)} {kvs : List (List L2.Key × D)} : H a = some (.dT kws) → kws.map (·.1) = kvs.map (·.1) → DqAll H (kws.map (·.2)) (kvs.map (·.2)) → Dq H (.ref a) (.dict (tD kvs))
  | wt {a : Addr} {xs : List V} {ds : List D} : H a = some (.tup xs) → DqAll H xs ds → Dq H (.ref a) (.dict (wK ds))
inductive DqAll (H : Hp) : List V → List D → Prop where
  | nil : DqAll H [] []
  | cons {v : V} {vs : List V} {d : D} {ds : List D} : Dq H v d → DqAll H vs ds → DqAll H (v :: vs) (d :: ds)
end
mutual
theorem dq_dp {K : PySem.W.Frag} {H : Hp} : ∀ {v : V} {d : D}, Dq H v d → d.canLay0 = true → Dp K H v d
  | _, _, .non, _ => .non
  | _, _, .bl b, _ => .bl b
  | _, _, .int i, _ => .int i
  | _, _, .str x, _ => .str x
  | _, _, .lst h a, c => .lst (SqL.of h) (dqa_dp a (by simpa only [PyData.canLay0] using c))
  | _, _, .tup h a, c => .tup (Tp.sq h) (dqa_dp a (by simpa only [PyData.canLay0] using c))
  | _, _, .dcK .., c => by simp [PyData.canLay0] at c
  | _, _, .dcT .., c => by simp [PyData.canLay0] at c
  | _, _, .wt .., c => by simp [PyData.canLay0] at c
theorem dqa_dp {K : PySem.W.Frag} {H : Hp} : ∀ {vs : List V} {ds : List D}, DqAll H vs ds → PyData.canLayAll0 ds = true → DpAll K H vs ds
  | _, _, .nil, _ => .nil
  | _, _, .cons h t, c => .cons (dq_dp h (by simp only [PyData.canLayAll0, Bool.and_eq_true] at c; exact c.1)) (dqa_dp t (by simp only [PyData.canLayAll0, Bool.and_eq_true] at c; exact c.2))
end

/-! ### data stay where the heap grows -/
mutual
theorem dq_ext {H H' : Hp} (e : Ex H H') : ∀ {v : V} {d : D}, Dq H v d → Dq H' v d
  | _, _, .non => .non
  | _, _, .bl b => .bl b
  | _, _, .int i => .int i
  | _, _, .str x => .str x
  | _, _, .lst h a => .lst (e _ _ h) (dqa_ext e a)
  | _, _, .tup h a => .tup (h.ext e) (dqa_ext e a)
  | _, _, .dcK h l a => .dcK (e _ _ h) l (dqa_ext e a)
  | _, _, .dcT h l a => .dcT (e _ _ h) l (dqa_ext e a)
  | _, _, .wt h a => .wt (e _ _ h) (dqa_ext e a)
theorem dqa_ext {H H' : Hp} (e : Ex H H') : ∀ {vs : List V} {ds : List D}, DqAll H vs ds → DqAll H' vs ds
  | _, _, .nil => .nil
  | _, _, .cons h t => .cons (dq_ext e h) (dqa_ext e t)
end
theorem dqa_len {H : Hp} : ∀ {vs : List V} {ds : List D}, DqAll H vs ds → vs.length = ds.length
  | _, _, .nil => rfl
  | _, _, .cons _ t => congrArg (· + 1) (dqa_len t)
theorem dqa_get {H : Hp} : ∀ {vs : List V} {ds : List D} {i : Nat} {v : V}, DqAll H vs ds → vs[i]? = some v → ∃ d, ds[i]? = some d ∧ Dq H v d
  | _, _, i, v, .nil, h => by simp at h
  | _, _, 0, v, .cons a t, h => by
    obtain rfl : _ = v := Option.some.inj h
    exact ⟨_, rfl, a⟩
  | _, _, i + 1, v, .cons a t, h => dqa_get (i := i) t h
theorem dqa_get' {H : Hp} : ∀ {vs : List V} {ds : List D} {i : Nat} {d : D}, DqAll H vs ds → ds[i]? = some d → ∃ v, vs[i]? = some v ∧ Dq H v d
  | _, _, i, d, .nil, h => by simp at h
  | _, _, 0, d, .cons a t, h => by
    obtain rfl : _ = d := Option.some.inj h
    exact ⟨_, rfl, a⟩
  | _, _, i + 1, d, .cons a t, h => dqa_get' (i := i) t h
theorem dqa_app {H : Hp} : ∀ {vs ws : List V} {ds es : List D}, DqAll H vs ds → DqAll H ws es → DqAll H (vs ++ ws) (ds ++ es)
  | _, _, _, _, .nil, h => h
  | _, _, _, _, .cons a t, h => .cons a (dqa_app t h)
theorem dqa_take {H : Hp} : ∀ (n : Nat) {vs : List V} {ds : List D}, DqAll H vs ds → DqAll H (vs.take n) (ds.take n)
  | 0, _, _, _ => .nil
  | _ + 1, _, _, .nil => .nil
  | n + 1, _, _, .cons a t => .cons a (dqa_take n t)
theorem dqa_drop {H : Hp} : ∀ (n : Nat) {vs : List V} {ds : List D}, DqAll H vs ds → DqAll H (vs.drop n) (ds.drop n)
  | 0, _, _, h => h
  | _ + 1, _, _, .nil => .nil
  | n + 1, _, _, .cons a t => dqa_drop n t
theorem dqa_set {H : Hp} {v : V} {d : D} (hv : Dq H v d) : ∀ (i : Nat) {vs : List V} {ds : List D}, DqAll H vs ds → DqAll H (vs.set i v) (ds.set i d)
  | _, _, _, .nil => .nil
  | 0, _, _, .cons a t => .cons hv t
  | i + 1, _, _, .cons a t => .cons a (dqa_set hv i t)
theorem dqa_rev {H : Hp} : ∀ {vs : List V} {ds : List D}, DqAll H vs ds → DqAll H vs.reverse ds.reverse
  | _, _, .nil => .nil
  | _, _, .cons a t => by
    rw [List.reverse_cons, List.reverse_cons]
    exact dqa_app (dqa_rev t) (.cons a .nil)
theorem dqa_erase {H : Hp} (i : Nat) {vs : List V} {ds : List D} (h : DqAll H vs ds) : DqAll H (vs.eraseIdx i) (ds.eraseIdx i) := by
  rw [List.eraseIdx_eq_take_drop_succ, List.eraseIdx_eq_take_drop_succ]
  exact dqa_app (dqa_take _ h) (dqa_drop _ h)
theorem dq_int {H : Hp} {v : V} {i : Int} (h : Dq H v (.int i)) : v = .int i := by cases h; rfl
theorem dq_bool {H : Hp} {v : V} {b : Bool} (h : Dq H v (.bool b)) : v = .bl b := by cases h; rfl
theorem dq_str {H : Hp} {v : V} {x : Str} (h : Dq H v (.str x)) : v = .str x := by cases h; rfl
theorem dq_none {H : Hp} {v : V} (h : Dq H v .none) : v = .non := by cases h; rfl
theorem dq_list {H : Hp} {v : V} {ds : List D} (h : Dq H v (.list ds)) : ∃ a vs, v = .ref a ∧ H a = some (.lst vs) ∧ DqAll H vs ds := by
  cases h with | lst h a => exact ⟨_, _, rfl, h, a⟩
theorem dq_tup {H : Hp} {v : V} {ds : List D} (h : Dq H v (.tuple ds)) : ∃ a vs, v = .ref a ∧ Tp H a vs ∧ DqAll H vs ds := by
  cases h with | tup h a => exact ⟨_, _, rfl, h, a⟩

/-! ### growth -/
theorem nt_lst {vs : List V} : ∀ ps, HO.lst vs ≠ .tbl ps := fun _ h => nomatch h
theorem tab_lst {H : Hp} {a : Addr} {vs ws : List V} {P : Addr} {q : Str} (t : LamX.TabS H P q) (h : H a = some (.lst vs)) : LamX.TabS (upd H a (.lst ws)) P q := by
  obtain ⟨ps, h1, h2, h3⟩ := t
  refine ⟨ps, by rw [upd_ne (ne_of h1 h (by intro z; cases z))]; exact h1, h2, fun pos cv hc => ?_⟩
  obtain ⟨c, e, e2⟩ := h3 pos cv hc
  exact ⟨c, e, by rw [upd_ne (ne_of e2 h (by unfold LamX.CodeO; intro z; cases z))]; exact e2⟩
theorem tabs_lst {T : List (Addr × Str)} {H : Hp} {a : Addr} {vs ws : List V} (t : LamX.Tabs T H) (h : H a = some (.lst vs)) : LamX.Tabs T (upd H a (.lst ws)) := fun p hp => tab_lst (t p hp) h
variable [TabSet]
/-- S: what all may read and none changes; H: all that is tracked -/
structure Grow (S H S' H' : Hp) : Prop where
  s : Ex S S'
  h : LamX.ExtN H H'
  sub : Ex S' H'
  out : ∀ b o, H b = some o → S' b = S b
  dom : ∀ b o, H b = some o → ∃ o', H' b = some o'
  tb : tabs S H → tabs S' H'
theorem Grow.refl {S H : Hp} (e : Ex S H) : Grow S H S H := ⟨Ex.refl S, LamX.ExtN.refl H, e, fun _ _ _ => rfl, fun _ o h => ⟨o, h⟩, fun h => h⟩
theorem Grow.trans {S H S1 H1 S2 H2 : Hp} (a : Grow S H S1 H1) (b : Grow S1 H1 S2 H2) : Grow S H S2 H2 :=
  ⟨a.s.trans b.s, a.h.trans b.h, b.sub, fun x o e => by
    obtain ⟨o', e'⟩ := a.dom x o e
    exact (b.out x o' e').trans (a.out x o e), fun x o e => by
    obtain ⟨o', e'⟩ := a.dom x o e
    exact b.dom x o' e', fun t => b.tb (a.tb t)⟩
theorem ex_upd2 {S H : Hp} (e : Ex S H) {p : Addr} {o : HO} : Ex (upd S p o) (upd H p o) := fun b u h => by
  by_cases hb : b = p
  · subst hb; rw [upd_same] at h ⊢; exact h
  · rw [upd_ne hb] at h ⊢; exact e b u h
theorem Grow.new {S H : Hp} (e : Ex S H) {p : Addr} {o : HO} (hp : H p = none) (hno : ∀ ps, o ≠ .tbl ps := by intro _ z; cases z) : Grow S H (upd S p o) (upd H p o) :=
  ⟨Ex.new (Evl.fresh_back e hp), LamX.ExtN.of (Ex.new hp), ex_upd2 e, fun b u h => upd_ne (ne_of_none h hp), fun b u h => ⟨u, Ex.new hp b u h⟩, fun t => ⟨t.1.ext (Ex.new hp), nt_upd t.2 hno⟩⟩

/-! ### slots -/
/-- what a def has for itself: a list, a dict -/
inductive Ob where
  | lst (xs : List D)
  | dct (kvs : List (D × D))
instance : Coe (List D) Ob := ⟨Ob.lst⟩
omit [TabSet] in
/-- the same keys, the values told -/
def KvOk {κ : Type} (S : Hp) (kws : List (κ × V)) (kvs : List (κ × D)) : Prop := kws.map (·.1) = kvs.map (·.1) ∧ DqAll S (kws.map (·.2)) (kvs.map (·.2))
omit [TabSet] in
/-- a dict of either kind -/
def DictAt (S : Hp) (o : HO) (kvs : List (D × D)) : Prop := (∃ kws kk, o = .dK kws ∧ kvs = kD kk ∧ KvOk S kws kk) ∨ ∃ kws kk, o = .dT kws ∧ kvs = tD kk ∧ KvOk S kws kk
omit [TabSet] in
theorem dict_ext {S S' : Hp} (x : Ex S S') {o : HO} {kvs : List (D × D)} (h : DictAt S o kvs) : DictAt S' o kvs := by
  rcases h with ⟨kws, kk, e, e1, e2, q⟩ | ⟨kws, kk, e, e1, e2, q⟩
  · exact .inl ⟨kws, kk, e, e1, e2, dqa_ext x q⟩
  · exact .inr ⟨kws, kk, e, e1, e2, dqa_ext x q⟩
omit [TabSet] in
def ObOk (S : Hp) (o : HO) : Ob → Prop
  | .lst xs => ∃ vs, o = .lst vs ∧ DqAll S vs xs
  | .dct kvs => DictAt S o kvs
omit [TabSet] in
theorem ob_kind {S : Hp} {o : HO} {ob : Ob} (h : ObOk S o ob) : (∃ vs, o = .lst vs) ∨ (∃ k, o = .dK k) ∨ ∃ k, o = .dT k := by
  cases ob
  · obtain ⟨_, e, _⟩ := h; exact .inl ⟨_, e⟩
  · rcases h with ⟨_, _, e, _⟩ | ⟨_, _, e, _⟩
    · exact .inr (.inl ⟨_, e⟩)
    · exact .inr (.inr ⟨_, e⟩)
omit [TabSet] in
theorem ob_nt {S : Hp} {o : HO} {ob : Ob} (h : ObOk S o ob) : ∀ ps, o ≠ .tbl ps := fun ps z => by
  rcases ob_kind h with ⟨_, e⟩ | ⟨_, e⟩ | ⟨_, e⟩ <;> rw [e] at z <;> cases z
omit [TabSet] in
theorem ob_ext {S S' : Hp} (x : Ex S S') {o : HO} {ob : Ob} (h : ObOk S o ob) : ObOk S' o ob := by
  cases ob
  · obtain ⟨vs, e, q⟩ := h; exact ⟨vs, e, dqa_ext x q⟩
  · exact dict_ext x h
omit [TabSet] in
theorem ob_lst {S : Hp} {vs : List V} {xs : List D} (h : DqAll S vs xs) : ObOk S (.lst vs) (.lst xs) := ⟨vs, rfl, h⟩
omit [TabSet] in
theorem tab_ob {S H : Hp} {a : Addr} {o o' : HO} {ob : Ob} {P : Addr} {q : Str} (t : LamX.TabS H P q) (h : H a = some o) (k : ObOk S o ob) : LamX.TabS (upd H a o') P q := by
  obtain ⟨ps, h1, h2, h3⟩ := t
  refine ⟨ps, by rw [upd_ne (ne_of h1 h (fun z => ob_nt k ps z.symm))]; exact h1, h2, fun pos cv hc => ?_⟩
  obtain ⟨c, e, e2⟩ := h3 pos cv hc
  refine ⟨c, e, ?_⟩
  rw [upd_ne (ne_of e2 h ?_)]
  · exact e2
  · unfold LamX.CodeO
    intro z
    rcases ob_kind k with ⟨_, e⟩ | ⟨_, e⟩ | ⟨_, e⟩ <;> rw [e] at z <;> cases z
omit [TabSet] in
theorem tabs_ob {T : List (Addr × Str)} {S H : Hp} {a : Addr} {o o' : HO} {ob : Ob} (t : LamX.Tabs T H) (h : H a = some o) (k : ObOk S o ob) : LamX.Tabs T (upd H a o') := fun p hp => tab_ob (t p hp) h k
inductive Slot where
  | no
  | sh (d : D)
  | ow (ob : Ob)
  | scr (ns : List Int)
abbrev DE := List Slot
/-- a frame: the heaps at the entry; a list that the caller lends -/
structure Fr where
  H0 : Hp
  S0 : Hp
  io : Option Addr
omit [TabSet] in
def SlotOk (K : PySem.W.Frag) (F : Fr) (S H : Hp) (x : Option V) : Slot → Prop
  | .no => True
  | .sh d => ∃ v, x = some v ∧ Dq S v d
  | .ow ob => ∃ a o, x = some (.ref a) ∧ S a = none ∧ (F.H0 a = none ∨ F.io = some a) ∧ H a = some o ∧ ObOk S o ob
  | .scr ns => ∃ a, x = some (.ref a) ∧ SqL K S a (ns.map V.int)
structure RSt (K : PySem.W.Frag) (F : Fr) (S H : Hp) (σ : L2.St) (δ : DE) : Prop where
  sub : Ex S H
  base : ∀ b o, F.H0 b = some o → (∀ ps, o ≠ .tbl ps) → F.io ≠ some b → H b = some o
  dom0 : ∀ b o, F.H0 b = some o → ∃ o', H b = some o'
  tb0 : tabs F.S0 F.H0 → tabs S H
  s0 : Ex F.S0 S
  out : ∀ b o, F.H0 b = some o → S b = F.S0 b
  iop : ∀ b, F.io = some b → ∃ o, H b = some o
  len : σ.length = δ.length
  slot : ∀ (i : Nat) x s, σ[i]? = some x → δ[i]? = some s → SlotOk K F S H x s
  sep : ∀ (i j : Nat) (a : Addr) (xs ys : Ob), δ[i]? = some (.ow xs) → δ[j]? = some (.ow ys) → σ[i]? = some (some (.ref a)) → σ[j]? = some (some (.ref a)) → i = j
  pin : ∀ a, F.io = some a → σ[0]? = some (some (.ref a)) ∧ ∃ xs, δ[0]? = some (.ow xs)
omit [TabSet] in
def Own (σ : L2.St) (δ : DE) (b : Addr) : Prop := ∃ (i : Nat) (xs : Ob), δ[i]? = some (.ow xs) ∧ σ[i]? = some (some (.ref b))
/-- what an expression may do -/
structure Stp (S H S' H' : Hp) (σ : L2.St) (δ δ' : DE) : Prop where
  s : Ex S S'
  out : ∀ b o, H b = some o → S' b = S b
  keep : ∀ b o, H b = some o → (∀ ps, o ≠ .tbl ps) → ¬ Own σ δ b → H' b = some o
  dom : ∀ b o, H b = some o → ∃ o', H' b = some o'
  kind : ∀ (i : Nat) xs, δ'[i]? = some (.ow xs) → ∃ ys, δ[i]? = some (.ow ys)
  tb : tabs S H → tabs S' H'
section
variable {K : PySem.W.Frag} {F : Fr} {S H S' H' S1 H1 S2 H2 : Hp} {σ : L2.St} {δ δ' δ1 δ2 : DE}
theorem Stp.refl : Stp S H S H σ δ δ := ⟨Ex.refl S, fun _ _ _ => rfl, fun _ _ h _ _ => h, fun _ o h => ⟨o, h⟩, fun _ xs h => ⟨xs, h⟩, fun h => h⟩
theorem Stp.own (a : Stp S H S1 H1 σ δ δ1) {b : Addr} (h : Own σ δ1 b) : Own σ δ b := by
  obtain ⟨i, xs, h1, h2⟩ := h
  obtain ⟨ys, h3⟩ := a.kind i xs h1
  exact ⟨i, ys, h3, h2⟩
theorem Stp.trans (a : Stp S H S1 H1 σ δ δ1) (b : Stp S1 H1 S2 H2 σ δ1 δ2) : Stp S H S2 H2 σ δ δ2 where
  s := a.s.trans b.s
  out := fun x o h => by
    obtain ⟨o', h'⟩ := a.dom x o h
    exact (b.out x o' h').trans (a.out x o h)
  keep := fun x o h nt n => b.keep x o (a.keep x o h nt n) nt fun q => n (a.own q)
  dom := fun x o h => by
    obtain ⟨o', h'⟩ := a.dom x o h
    exact b.dom x o' h'
  kind := fun i xs h => by
    obtain ⟨ys, h1⟩ := b.kind i xs h
    exact a.kind i ys h1
  tb := fun t => b.tb (a.tb t)
theorem Stp.grow (g : Grow S H S' H') : Stp S H S' H' σ δ δ := ⟨g.s, g.out, fun b o h nt _ => g.h b o h nt, g.dom, fun _ xs h => ⟨xs, h⟩, g.tb⟩
theorem RSt.grow (R : RSt K F S H σ δ) (g : Grow S H S' H') : RSt K F S' H' σ δ where
  sub := g.sub
  base := fun b o h nt n => g.h b o (R.base b o h nt n) nt
  dom0 := fun b o h => by
    obtain ⟨o', h'⟩ := R.dom0 b o h
    exact g.dom b o' h'
  tb0 := fun t => g.tb (R.tb0 t)
  s0 := R.s0.trans g.s
  out := fun b o h => by
    obtain ⟨o', h'⟩ := R.dom0 b o h
    exact (g.out b o' h').trans (R.out b o h)
  iop := fun b h => by
    obtain ⟨o', h'⟩ := R.iop b h
    exact g.dom b o' h'
  len := R.len
  slot := fun i x s h1 h2 => by
    have q := R.slot i x s h1 h2
    cases s with
    | no => trivial
    | sh d =>
      obtain ⟨v, e, p⟩ := q
      exact ⟨v, e, dq_ext g.s p⟩
    | ow xs =>
      obtain ⟨a, vs, e, e1, e2, e3, e4⟩ := q
      exact ⟨a, vs, e, (g.out a _ e3).trans e1, e2, g.h a _ e3 (ob_nt e4), ob_ext g.s e4⟩
    | scr ns =>
      obtain ⟨a, e, q⟩ := q
      exact ⟨a, e, Evl.ex_l g.s q⟩
  sep := R.sep
  pin := R.pin
theorem RSt.frz (R : RSt K F S H σ δ) {p : Addr} (hp : H p = none) : F.H0 p = none ∧ F.io ≠ some p := by
  have h2 : F.io ≠ some p := fun e => by
    obtain ⟨o, h⟩ := R.iop p e
    rw [hp] at h; cases h
  refine ⟨?_, h2⟩
  cases h : F.H0 p with
  | none => rfl
  | some o =>
    obtain ⟨o', q⟩ := R.dom0 p o h
    rw [hp] at q; cases q
theorem RSt.own_in (R : RSt K F S H σ δ) {b : Addr} (h : Own σ δ b) : ∃ o, H b = some o ∧ S b = none := by
  obtain ⟨i, xs, h1, h2⟩ := h
  obtain ⟨a, vs, e, e1, e2, e3, e4⟩ := R.slot i _ _ h2 h1
  have e' : V.ref b = V.ref a := Option.some.inj e
  cases e'
  exact ⟨vs, e3, e1⟩
/-- a slot takes a value -/
theorem RSt.set_sh (R : RSt K F S H σ δ) {v : V} {d : D} (h : Dq S v d) (i : Nat) (h0 : i = 0 → ∀ xs, δ[0]? ≠ some (.ow xs)) : RSt K F S H (σ.set i (some v)) (δ.set i (.sh d)) where
  sub := R.sub
  base := R.base
  dom0 := R.dom0
  tb0 := R.tb0
  s0 := R.s0
  out := R.out
  iop := R.iop
  len := by rw [List.length_set, List.length_set]; exact R.len
  slot := fun j x s h1 h2 => by
    by_cases hj : i = j
    · subst hj
      have hl : i < σ.length := by
        have := (List.getElem?_eq_some_iff.mp h1).1
        rwa [List.length_set] at this
      rw [List.getElem?_set_self hl] at h1
      rw [List.getElem?_set_self (by rw [← R.len]; exact hl)] at h2
      cases h1; cases h2
      exact ⟨v, rfl, h⟩
    · rw [List.getElem?_set_ne hj] at h1 h2
      exact R.slot j x s h1 h2
  sep := fun j k a xs ys h1 h2 h3 h4 => by
    have nj : i ≠ j := fun e => by
      subst e
      by_cases hl : i < δ.length
      · rw [List.getElem?_set_self hl] at h1; cases h1
      · rw [List.getElem?_eq_none (by rw [List.length_set]; omega)] at h1; cases h1
    have nk : i ≠ k := fun e => by
      subst e
      by_cases hl : i < δ.length
      · rw [List.getElem?_set_self hl] at h2; cases h2
      · rw [List.getElem?_eq_none (by rw [List.length_set]; omega)] at h2; cases h2
    rw [List.getElem?_set_ne nj] at h1 h3
    rw [List.getElem?_set_ne nk] at h2 h4
    exact R.sep j k a xs ys h1 h2 h3 h4
  pin := fun a e => by
    obtain ⟨p1, xs, p2⟩ := R.pin a e
    have ni : i ≠ 0 := fun z => h0 z xs p2
    rw [List.getElem?_set_ne ni, List.getElem?_set_ne ni]
    exact ⟨p1, xs, p2⟩
/-- a slot takes a list of its own -/
theorem RSt.set_ow (R : RSt K F S H σ δ) {a : Addr} {vs : HO} {xs : Ob} (h1 : S a = none) (h2 : F.H0 a = none ∨ F.io = some a) (h3 : H a = some vs) (h4 : ObOk S vs xs) (hn : ¬ Own σ δ a) (i : Nat) (h0 : i = 0 → ∀ xs, δ[0]? ≠ some (.ow xs)) :
    RSt K F S H (σ.set i (some (.ref a))) (δ.set i (.ow xs)) where
  sub := R.sub
  base := R.base
  dom0 := R.dom0
  tb0 := R.tb0
  s0 := R.s0
  out := R.out
  iop := R.iop
  len := by rw [List.length_set, List.length_set]; exact R.len
  slot := fun j x s e1 e2 => by
    by_cases hj : i = j
    · subst hj
      have hl : i < σ.length := by
        have := (List.getElem?_eq_some_iff.mp e1).1
        rwa [List.length_set] at this
      rw [List.getElem?_set_self hl] at e1
      rw [List.getElem?_set_self (by rw [← R.len]; exact hl)] at e2
      cases e1; cases e2
      exact ⟨a, vs, rfl, h1, h2, h3, h4⟩
    · rw [List.getElem?_set_ne hj] at e1 e2
      exact R.slot j x s e1 e2
  sep := fun j k b xs' ys e1 e2 e3 e4 => by
    have look : ∀ (m : Nat) zs, (δ.set i (.ow xs))[m]? = some (.ow zs) → (σ.set i (some (.ref a)))[m]? = some (some (.ref b)) → (m = i ∧ b = a) ∨ (m ≠ i ∧ δ[m]? = some (.ow zs) ∧ σ[m]? = some (some (.ref b))) := fun m zs g1 g2 => by
      by_cases hm : i = m
      · subst hm
        have hl : i < σ.length := by
          have := (List.getElem?_eq_some_iff.mp g2).1
          rwa [List.length_set] at this
        rw [List.getElem?_set_self hl] at g2
        cases g2
        exact .inl ⟨rfl, rfl⟩
      · rw [List.getElem?_set_ne hm] at g1 g2
        exact .inr ⟨fun e => hm e.symm, g1, g2⟩
    rcases look j _ e1 e3 with ⟨c1, c2⟩ | ⟨c1, c2, c3⟩ <;> rcases look k _ e2 e4 with ⟨d1, d2⟩ | ⟨d1, d2, d3⟩
    · rw [c1, d1]
    · rw [c2] at d3
      exact absurd ⟨k, ys, d2, d3⟩ hn
    · rw [d2] at c3
      exact absurd ⟨j, xs', c2, c3⟩ hn
    · exact R.sep j k b xs' ys c2 d2 c3 d3
  pin := fun a e => by
    obtain ⟨p1, xs, p2⟩ := R.pin a e
    have ni : i ≠ 0 := fun z => h0 z xs p2
    rw [List.getElem?_set_ne ni, List.getElem?_set_ne ni]
    exact ⟨p1, xs, p2⟩
/-- the own list of a slot is changed -/
theorem RSt.mutO (R : RSt K F S H σ δ) {a : Addr} {i : Nat} {xs ys : Ob} {ws : HO} (hd : δ[i]? = some (.ow xs)) (hs : σ[i]? = some (some (.ref a))) (h4 : ObOk S ws ys) :
    RSt K F S (upd H a ws) σ (δ.set i (.ow ys)) := by
  obtain ⟨a', vs, e, e1, e2, e3, e4⟩ := R.slot i _ _ hs hd
  have e' : V.ref a = V.ref a' := Option.some.inj e
  cases e'
  have hl : i < δ.length := (List.getElem?_eq_some_iff.mp hd).1
  refine ⟨fun b o h => ?_, fun b o h nt n => ?_, fun b o h => ?_, fun t => ⟨tabs_ob (R.tb0 t).1 e3 e4, (R.tb0 t).2⟩, R.s0, R.out, fun b h => ?_, ?_, fun j x s g1 g2 => ?_, fun j k b zs zs' g1 g2 g3 g4 => ?_, fun b h => ?_⟩
  · have hb : b ≠ a := fun z => by rw [z, e1] at h; cases h
    rw [upd_ne hb]; exact R.sub b o h
  · have hb : b ≠ a := fun z => by
      subst z
      rcases e2 with z | z
      · rw [z] at h; cases h
      · exact n z
    rw [upd_ne hb]; exact R.base b o h nt n
  · by_cases hb : b = a
    · subst hb; exact ⟨_, upd_same⟩
    · rw [upd_ne hb]; exact R.dom0 b o h
  · by_cases hb : b = a
    · subst hb; exact ⟨_, upd_same⟩
    · rw [upd_ne hb]; exact R.iop b h
  · rw [List.length_set]; exact R.len
  · by_cases hj : i = j
    · subst hj
      rw [hs] at g1; cases g1
      rw [List.getElem?_set_self hl] at g2; cases g2
      exact ⟨a, ws, rfl, e1, e2, upd_same, h4⟩
    · rw [List.getElem?_set_ne hj] at g2
      have q := R.slot j x s g1 g2
      cases s with
      | no => trivial
      | sh d => exact q
      | scr ns => exact q
      | ow zs =>
        obtain ⟨b, us, f, f1, f2, f3, f4⟩ := q
        have hb : b ≠ a := fun z => by
          subst z
          rw [f] at g1
          exact hj (R.sep i j b xs zs hd g2 hs g1)
        exact ⟨b, us, f, f1, f2, by rw [upd_ne hb]; exact f3, f4⟩
  · have look : ∀ (m : Nat) us, (δ.set i (.ow ys))[m]? = some (.ow us) → ∃ us', δ[m]? = some (.ow us') := fun m us g => by
      by_cases hm : i = m
      · subst hm; exact ⟨xs, hd⟩
      · rw [List.getElem?_set_ne hm] at g; exact ⟨us, g⟩
    obtain ⟨u1, q1⟩ := look j _ g1
    obtain ⟨u2, q2⟩ := look k _ g2
    exact R.sep j k b u1 u2 q1 q2 g3 g4
  · obtain ⟨p1, us, p2⟩ := R.pin b h
    refine ⟨p1, ?_⟩
    by_cases hi : i = 0
    · subst hi
      exact ⟨ys, List.getElem?_set_self hl⟩
    · rw [List.getElem?_set_ne hi]
      exact ⟨us, p2⟩
theorem RSt.mut (R : RSt K F S H σ δ) {a : Addr} {i : Nat} {xs : Ob} {ys : List D} {ws : List V} (hd : δ[i]? = some (.ow xs)) (hs : σ[i]? = some (some (.ref a))) (h4 : DqAll S ws ys) :
    RSt K F S (upd H a (.lst ws)) σ (δ.set i (.ow (.lst ys))) := R.mutO hd hs (ob_lst h4)
/-- an own list is given to all -/
theorem RSt.give (R : RSt K F S H σ δ) {i : Nat} {xs : List D} (hd : δ[i]? = some (.ow (.lst xs))) (hi0 : i ≠ 0) : ∃ a vs S', σ[i]? = some (some (.ref a)) ∧ H a = some (.lst vs) ∧ Ex S S' ∧ S' = upd S a (.lst vs) ∧ DqAll S vs xs ∧ S a = none ∧
    RSt K F S' H σ (δ.set i (.sh (.list xs))) := by
  have hl : i < σ.length := by rw [R.len]; exact (List.getElem?_eq_some_iff.mp hd).1
  obtain ⟨x, hx⟩ : ∃ x, σ[i]? = some x := ⟨_, List.getElem?_eq_getElem hl⟩
  obtain ⟨a, o, rfl, e1, e2, e3, vs, rfl, e4⟩ := R.slot i _ _ hx hd
  have hex : Ex S (upd S a (.lst vs)) := Ex.new e1
  refine ⟨a, vs, upd S a (.lst vs), hx, e3, hex, rfl, e4, e1, ?_⟩
  have hio' : F.io ≠ some a := fun e => by
    obtain ⟨p1, us, p2⟩ := R.pin a e
    exact hi0 (R.sep i 0 a _ us hd p2 hx p1)
  have h0 : F.H0 a = none := e2.resolve_right hio'
  refine ⟨fun b o h => ?_, R.base, R.dom0, fun t => ⟨(R.tb0 t).1, nt_upd (R.tb0 t).2 nt_lst⟩, R.s0.trans hex, fun b o h => ?_, R.iop, by rw [List.length_set]; exact R.len, fun j y s g1 g2 => ?_, fun j k b zs zs' g1 g2 g3 g4 => ?_, fun b h => ?_⟩
  · by_cases hb : b = a
    · subst hb; rw [upd_same] at h; cases h; exact e3
    · rw [upd_ne hb] at h; exact R.sub b o h
  · have hb : b ≠ a := fun z => by rw [z, h0] at h; cases h
    rw [upd_ne hb]; exact R.out b o h
  · by_cases hj : i = j
    · subst hj
      rw [hx] at g1; cases g1
      rw [List.getElem?_set_self (by rw [← R.len]; exact hl)] at g2; cases g2
      exact ⟨_, rfl, .lst upd_same (dqa_ext hex e4)⟩
    · rw [List.getElem?_set_ne hj] at g2
      have q := R.slot j y s g1 g2
      cases s with
      | no => trivial
      | sh d =>
        obtain ⟨v, e, p⟩ := q
        exact ⟨v, e, dq_ext hex p⟩
      | scr ns =>
        obtain ⟨b, e, q⟩ := q
        exact ⟨b, e, Evl.ex_l hex q⟩
      | ow zs =>
        obtain ⟨b, us, f, f1, f2, f3, f4⟩ := q
        have hb : b ≠ a := fun z => by
          subst z
          rw [f] at g1
          exact hj (R.sep i j b xs zs hd g2 hx g1)
        exact ⟨b, us, f, by rw [upd_ne hb]; exact f1, f2, f3, ob_ext hex f4⟩
  · have nj : ∀ (m : Nat) us, (δ.set i (.sh (.list xs)))[m]? = some (.ow us) → δ[m]? = some (.ow us) := fun m us g => by
      by_cases hm : i = m
      · subst hm
        rw [List.getElem?_set_self (by rw [← R.len]; exact hl)] at g; cases g
      · rwa [List.getElem?_set_ne hm] at g
    exact R.sep j k b _ _ (nj j _ g1) (nj k _ g2) g3 g4
  · obtain ⟨p1, us, p2⟩ := R.pin b h
    exact ⟨p1, us, by rw [List.getElem?_set_ne hi0]; exact p2⟩
end
end Sd

/-! new tuples, their objects known -/
namespace Sd
open PySem PySem.Spec PyProof.Rows L2
open Evl (Ex)
/-- a new tuple -/
def NewT (H : Hp) (Q : VK) (ys : List V) : Prop := ∀ p its n, H p = none → Q (.ref p) (upd H p (.frz (tObj its n) (.tup ys)))
section
variable {X : Cx} {pins : List (Addr × Obj)} {σ : List (Option V)} {H : Hp} {s : Shared}
theorem lay_t (I : Inv X pins σ H s) {ys : List V} {us : List Value} (r : Vals ys us) (z : ys.length ≤ sizeLine) (tk : Nat) :
    ∃ n, Inv X pins σ (upd H s.heap.objs.size (.frz (tObj us.toArray n) (.tup ys))) { s with heap := s.heap.push { cls := .type "tuple", data := .seq us.toArray }, toks := tk } :=
  ⟨_, I.laid (t' := tk) (o := .frz (tObj us.toArray _) (.tup ys)) (fun _ _ q => Heap.get?_push_of_some _ q) (Nat.le_refl _) ⟨Heap.get?_push_size _ rfl, z, us, r, IsTup.new _ _⟩⟩
theorem end_t {Q : VK} (I : Inv X pins σ H s) {ys : List V} {us : List Value} (r : Vals ys us) (z : ys.length ≤ sizeLine) (tk : Nat) (q : NewT H Q ys) :
    EP X pins σ Q (.ref s.heap.objs.size) { s with heap := s.heap.push { cls := .type "tuple", data := .seq us.toArray }, toks := tk } := by
  obtain ⟨n, J⟩ := lay_t I r z tk
  exact ⟨.ref s.heap.objs.size, _, J, rfl, q _ _ _ (I.hok.fresh (Nat.le_refl _))⟩
def tTupF (t : TA) : TE := fun σ H Q => t σ H fun ys H1 => ys.length ≤ sizeLine ∧ NewT H1 Q ys
theorem pe_tupF {es : List Expr} {k : Nat} {pos : Pos} {t : TA} (h : PA X es t) : PE X (.Tuple es k pos) (tTupF t) := by
  refine ⟨fun pins s σ H Q I hq => wpAny_Tuple_spliced (thn (h.run pos pins s σ H _ I hq) fun us s1 ⟨ys, H1, J, r, z, q⟩ => ⟨by rw [← r.length]; exact z, ?_⟩)⟩
  exact end_t J r z s1.toks q
def rTupF (K : PySem.W.Frag) : List V → Hp → VK → Prop := fun xs H Q => ∃ p ys, xs = [.ref p] ∧ ((SqL K H p ys ∧ NewT H Q ys) ∨ (SqT K H p ys ∧ Q (.ref p) H))
theorem call_tupF : CallR X (.type "tuple") (rTupF X.K) := by
  intro pins s σ H xs us Q I r h
  obtain ⟨p, ys, rfl, h⟩ := h
  obtain ⟨u, rfl, rx⟩ := vals1 r
  cases rx
  rcases h with ⟨hl, q⟩ | ⟨ht, q⟩
  · obtain ⟨its, ri, pl, z⟩ := I.list hl
    have e := ri.length
    exact call_tuple_list pl.isList (fun h1 kp => end_t (s := { s with heap := h1 }) (I.kept (t' := s.toks) kp) ri z s.toks q) (by rw [List.size_toArray]; omega)
  · obtain ⟨its, ri, pl, z⟩ := I.tuple ht
    exact call_tuple_same pl ⟨.ref p, H, I, rfl, q⟩
def rCatF (K : PySem.W.Frag) : R2 := fun x y H Q => ∃ a b xs ys, x = .ref a ∧ y = .ref b ∧ SqT K H a xs ∧ SqT K H b ys ∧ xs.length + ys.length ≤ sizeLine ∧
  (xs = [] → Q (.ref b) H) ∧ (xs ≠ [] → ys = [] → Q (.ref a) H) ∧ (xs ≠ [] → ys ≠ [] → NewT H Q (xs ++ ys))
theorem op_catF : OpR X (binaryOp .Add) (rCatF X.K) := by
  intro pins s σ H x y v u Q I rx ry h
  obtain ⟨a, b, xs, ys, ex, ey, ha, hb, z, q0, q1, q2⟩ := h
  subst ex ey
  cases rx
  cases ry
  obtain ⟨is1, r1, p1, _⟩ := I.tuple ha
  obtain ⟨is2, r2, p2, _⟩ := I.tuple hb
  by_cases hx : xs = []
  · subst hx
    cases r1
    exact cat_tup0 p1 p2 ⟨.ref b, H, I, rfl, q0 rfl⟩
  · refine HT.cat_tup p1 p2 (fun w => hx (r1.nil_iff.mp w)) (fun w => ⟨.ref a, H, I, rfl, q1 hx (r2.nil_iff.mp w)⟩) (fun w => ?_) (by rw [← r1.length, ← r2.length]; exact z)
    exact end_t I (r1.append r2) (by rw [List.length_append]; exact z) s.toks (q2 hx fun e => w (r2.nil_iff.mpr e))
def rSlF (K : PySem.W.Frag) : V → Option Int → Option Int → Hp → VK → Prop := fun x lo hi H Q => ∃ a xs, x = .ref a ∧ SqT K H a xs ∧
  (HT.sIx xs.length 0 lo = 0 ∧ HT.sIx xs.length xs.length hi = xs.length → Q (.ref a) H) ∧ (¬ (HT.sIx xs.length 0 lo = 0 ∧ HT.sIx xs.length xs.length hi = xs.length) → NewT H Q (cutV xs lo hi))
theorem sl_F : SlR X (rSlF X.K) := by
  intro pins s σ H x v vl vu lo hi sl Q I rx hs pl pu h
  obtain ⟨a, xs, ex, hx, q1, q2⟩ := h
  subst ex
  cases rx
  obtain ⟨its, r, ht, hz⟩ := I.tuple hx
  have hl : its.toArray.size = xs.length := by rw [List.size_toArray]; exact r.length.symm
  refine ⟨"tuple", _, PyProof.Rows.slot_tuple_getitem.lookup, ht.typeIs, ?_⟩
  by_cases hw : HT.sIx xs.length 0 lo = 0 ∧ HT.sIx xs.length xs.length hi = xs.length
  · exact getItem_tuple_whole ht hs pl pu (by rw [hl]; exact hw) ⟨.ref a, H, I, rfl, q1 hw⟩
  · refine HT.getItem_tuple_cut ht hs pl pu (by rw [hl]; exact hw) ?_ (by rw [hl]; exact hz)
    rw [hl]
    exact end_t I ((r.drop (HT.sIx xs.length 0 lo)).take (HT.sIx xs.length xs.length hi - HT.sIx xs.length 0 lo)) (Nat.le_trans (cutV_length xs lo hi) hz) s.toks (q2 hw)
def tRgF (te : L2.St → Hp → (Int → Int → Hp → Prop) → Prop) : TE := fun σ H Q => te σ H fun a b H1 => RgOk a b ∧ NewT H1 Q (rgV a b)
theorem pe_rgF {e : Expr} {te : L2.St → Hp → (Int → Int → Hp → Prop) → Prop} {p pos : Pos} (hc : X.calm = true) (hg : Gl X "tuple") (hm : X.mg "tuple" = none) (he : PRg X e te) (na : starEach [e] X.env = (false, eval e X.env) :: starEach [] X.env := by rfl) : PE X (.Call (.Name "tuple" p) [e] [] pos) (tRgF te) := by
  refine ⟨fun pins s σ H Q I h => Call_ (ld_blt I hg hm boot_tuple (PyProof.Rows.callWith_type1 (args_cons (thn (he pins s σ H _ I h) fun x s1 ⟨r, a, b, t, u, v, H1, ex, hr, J, ok, q⟩ => args_nil ?_) na) na))⟩
  subst ex
  obtain ⟨b1, b2, b3, b4, b5⟩ := ok
  refine call_tuple_range (n := (b - a).toNat) (J.ok.hd hc) hr (small_one b1 b2 b3 b4) (rangeSize_nat a b) b5 fun h1 tk acc hk hi => ?_
  have J2 : Inv X pins σ H1 { s1 with heap := h1, toks := tk } := J.kept hk
  have w := end_t (us := acc.toList) J2 (vals_rg hi) (by rw [rgV_length, sizeLine_eq]; omega) tk q
  rw [Array.toArray_toList] at w
  exact w
def rRepF (K : PySem.W.Frag) : R2 := fun x y H Q => ∃ l k xs, x = .ref l ∧ y = .int k ∧ SqT K H l xs ∧ -1000 ≤ k ∧ k ≤ 1000 ∧ xs.length ≤ 1000 ∧ ((xs = [] ∨ k = 1) → Q (.ref l) H) ∧ (¬(xs = [] ∨ k = 1) → NewT H Q (List.replicate k.toNat xs).flatten)
end
theorem tuple_mulS (l : Addr) (items : Array Value) (n : Nat) (dd : Option Addr) (sl : Array (Option Value)) (x : Int) (u : Tok) (c0 : (decide (x < -(2 ^ 63)) || decide (x ≥ 2 ^ 63)) = false) (c1 : (items.isEmpty || x == 1) = true) :
    Meets (Builtin.«tuple.__mul__» ⟨[.ref l, .int x u], []⟩) (fun _ R s => s.heap.get? l = some { cls := .type "tuple", dict := dd, data := .seq items n, slots := sl } ∧
      R (.ok (.ret (Value.ref l))) s) :=
  .of_wp fun prog w A R s h => by
    obtain ⟨hp, g, d, tk, os⟩ := s
    obtain ⟨hl, h⟩ := h
    have f1 := AutoSeq1.idx_int
    wp_walk using wpAny_loadPart' hl
    repeat (first
      | (refine wpAny_ite_false (decide_eq_false (by rw [c0]; exact Bool.false_ne_true)) ?_; wp_walk using wpAny_loadPart' hl)
      | (refine wpAny_ite_true (decide_eq_true (by rw [c1])) ?_; wp_walk using wpAny_loadPart' hl))
    exact ⟨_, rfl, h⟩
theorem tuple_mul0 (l : Addr) (items : Array Value) (n : Nat) (dd : Option Addr) (sl : Array (Option Value)) (x : Int) (u : Tok) (c0 : (decide (x < -(2 ^ 63)) || decide (x ≥ 2 ^ 63)) = false) (c1 : (items.isEmpty || x == 1) = false) (c2 : (decide (x ≤ 0) || items.isEmpty) = true) :
    Meets (Builtin.«tuple.__mul__» ⟨[.ref l, .int x u], []⟩) (fun _ R s => s.heap.get? l = some { cls := .type "tuple", dict := dd, data := .seq items n, slots := sl } ∧
      R (.ok (.ret (Value.ref s.heap.objs.size))) { s with heap := s.heap.push { cls := Value.type "tuple", data := Data.seq #[] }, toks := s.toks }) :=
  .of_wp fun prog w A R s h => by
    obtain ⟨hp, g, d, tk, os⟩ := s
    obtain ⟨hl, h⟩ := h
    have f1 := AutoSeq1.idx_int
    wp_walk using wpAny_loadPart' hl
    repeat (first
      | (refine wpAny_ite_false (decide_eq_false (by rw [c0]; exact Bool.false_ne_true)) ?_; wp_walk using wpAny_loadPart' hl)
      | (refine wpAny_ite_false (decide_eq_false (by rw [c1]; exact Bool.false_ne_true)) ?_; wp_walk using wpAny_loadPart' hl)
      | (refine wpAny_ite_true (decide_eq_true (by rw [c2])) ?_; wp_walk using wpAny_loadPart' hl))
    exact ⟨_, rfl, h⟩
section
variable {X : Cx}
theorem op_repF : OpR X (binaryOp .Mult) (rRepF X.K) := by
  intro pins s σ H x y v u Q I rx ry h
  obtain ⟨l, k, xs, ex, ey, hT, h1, h2, hz, q1, q2⟩ := h
  subst ex ey
  cases rx
  obtain ⟨t, rfl⟩ := ry
  obtain ⟨its, r, ⟨⟨cls, dd, data, sl⟩, ho, hc, n, hd⟩, hs⟩ := I.tuple hT
  simp only at hc hd
  subst hc hd
  have hle : its.length = xs.length := r.length.symm
  have c0 : (decide (k < -(2 ^ 63)) || decide (k ≥ 2 ^ 63)) = false := by
    rw [decide_eq_false (by omega), decide_eq_false (by omega)] <;> rfl
  have hemp : its.toArray.isEmpty = xs.isEmpty := by
    cases its <;> cases xs <;> first | rfl | (simp at hle)
  have go := fun {Q' : Value → Shared → Prop} (w : wpAny (model X.prog X.w) X.A (call (.builtin "tuple.__mul__") [.ref l, .int k t]) Q' X.xe s) =>
    wpAny_binaryOp_repeat_ref (T := "tuple") (U := "int") (by decide) (a := .ref l) (n := .int k t) (s := s) (Q := Q') (E := X.xe) ⟨_, ho, rfl⟩ (fun s' => typeIs_int s' k t) noFill_tuple_mul F.fills_int_mul F.slot_int_rmul repeat_tuple F.slot_int_index.lookup
      (call_meets F.slot_int_rmul (typeIs_int s k t) F.entry_int_rmul (F.args_int_rmul_2 _ _) (int_rmul_tuple k t l its.toArray n dd sl) ⟨ho, rfl, ⟨_, ho, rfl⟩, w⟩)
  by_cases hc : xs = [] ∨ k = 1
  · have c1 : (its.toArray.isEmpty || k == 1) = true := by
      rw [hemp]
      rcases hc with rfl | rfl
      · rfl
      · simp
    exact go (call_meets F.slot_tuple_mul ⟨_, ho, rfl⟩ F.entry_tuple_mul (F.args_tuple_mul_2 _ _) (tuple_mulS l its.toArray n dd sl k t c0 c1) ⟨ho, ⟨.ref l, H, I, rfl, q1 hc⟩⟩)
  have hx : xs ≠ [] := fun e => hc (.inl e)
  have hk1 : ¬ k = 1 := fun e => hc (.inr e)
  have c1 : (its.toArray.isEmpty || k == 1) = false := by
    rw [hemp]
    cases xs with
    | nil => exact absurd rfl hx
    | cons a b =>
      show (k == 1) = false
      exact beq_eq_false_iff_ne.mpr hk1
  by_cases hk0 : k ≤ 0
  · have c2 : (decide (k ≤ 0) || its.toArray.isEmpty) = true := by
      rw [decide_eq_true hk0]
      rfl
    have e0 : (List.replicate k.toNat xs).flatten = [] := by
      rw [show k.toNat = 0 by omega]
      rfl
    rw [e0] at q2
    exact go (call_meets F.slot_tuple_mul ⟨_, ho, rfl⟩ F.entry_tuple_mul (F.args_tuple_mul_2 _ _) (tuple_mul0 l its.toArray n dd sl k t c0 c1 c2) ⟨ho, end_t I .nil (by decide) s.toks (q2 hc)⟩)
  · have hi : its.toArray.isEmpty = false := by
      rw [hemp]
      cases xs with
      | nil => exact absurd rfl hx
      | cons a b => rfl
    have c2 : (decide (k ≤ 0) || its.toArray.isEmpty) = false := by
      rw [hi, Bool.or_false]
      exact decide_eq_false hk0
    have hm : ((its.toArray.size : Nat) : Int) * k ≤ 1000000 := by
      rw [List.size_toArray, hle]
      have a1 : ((xs.length : Nat) : Int) * k ≤ 1000 * k := Int.mul_le_mul_of_nonneg_right (by omega) (by omega)
      omega
    have fl : (List.replicate k.toNat its).flatten.length ≤ sizeLine := by
      rw [PyProof.Rows.lm_len_rep_flat, hle, sizeLine_eq]
      have a1 : k.toNat * xs.length ≤ 1000 * 1000 := Nat.mul_le_mul (by omega) hz
      omega
    have c4 : Builtin.Tuple.tupleTooMany (((its.toArray.size : Nat) : Int) * k) = false := by
      unfold Builtin.Tuple.tupleTooMany
      rw [sizeLine_eq]
      exact decide_eq_false (by omega)
    refine go (call_meets F.slot_tuple_mul ⟨_, ho, rfl⟩ F.entry_tuple_mul (F.args_tuple_mul_2 _ _) (tuple_mulW l its.toArray n dd sl k t c0 c1 c2 (by omega) c4 (by rw [size_rep, List.size_toArray]; exact fl)) ⟨ho, ?_⟩)
    rw [size_rep]
    refine end_t I (r.rep k.toNat) ?_ s.toks (q2 hc)
    rw [PyProof.Rows.lm_len_rep_flat, sizeLine_eq]
    have a1 : k.toNat * xs.length ≤ 1000 * 1000 := Nat.mul_le_mul (by omega) hz
    omega
end
end Sd

/-! Expressions, told by functions on plain data. -/
namespace Sd
open PySem PySem.Spec PyProof.Rows L2
open Evl (Ex)
variable [TabSet]
abbrev M := DE → Option (D × DE)
abbrev MT := DE → Option (Bool × DE)
abbrev MA := DE → Option (List D × DE)
def SE (K : PySem.W.Frag) (F : Fr) (f : M) : TE := fun σ H Q => ∃ S δ d δ', RSt K F S H σ δ ∧ f δ = some (d, δ') ∧
  ∀ v S' H', Stp S H S' H' σ δ δ' → RSt K F S' H' σ δ' → Dq S' v d → Q v H'
def ST (K : PySem.W.Frag) (F : Fr) (f : MT) : TT := fun σ H Q => ∃ S δ b δ', RSt K F S H σ δ ∧ f δ = some (b, δ') ∧
  ∀ S' H', Stp S H S' H' σ δ δ' → RSt K F S' H' σ δ' → Q b H'
def SA (K : PySem.W.Frag) (F : Fr) (f : MA) : TA := fun σ H Q => ∃ S δ ds δ', RSt K F S H σ δ ∧ f δ = some (ds, δ') ∧
  ∀ vs S' H', Stp S H S' H' σ δ δ' → RSt K F S' H' σ δ' → DqAll S' vs ds → Q vs H'
/-- a new list that nobody else holds -/
def SF (K : PySem.W.Frag) (F : Fr) (f : DE → Option (List D × DE)) : TE := fun σ H Q => ∃ S δ ds δ', RSt K F S H σ δ ∧ f δ = some (ds, δ') ∧
  ∀ a vs S' H', Stp S H S' H' σ δ δ' → RSt K F S' H' σ δ' → H a = none → S' a = none → H' a = some (.lst vs) → DqAll S' vs ds → Q (.ref a) H'
section
variable {X : Cx} {F : Fr} {e a b : Expr} {pos : Pos} {f g h : M} {tf tg : MT}
theorem pe_of (h : ∀ S δ d δ' σ H Q, RSt X.K F S H σ δ → f δ = some (d, δ') → (∀ v S' H', Stp S H S' H' σ δ δ' → RSt X.K F S' H' σ δ' → Dq S' v d → Q v H') → ∃ t, PE X e t ∧ t σ H Q) : PE X e (SE X.K F f) :=
  ⟨fun pins s σ H Q I hw => by
    obtain ⟨S, δ, d, δ', R, hf, q⟩ := hw
    obtain ⟨t, ht, hq⟩ := h S δ d δ' σ H Q R hf q
    exact ht.run pins s σ H Q I hq⟩
theorem pt_of (h : ∀ S δ d δ' σ H Q, RSt X.K F S H σ δ → tf δ = some (d, δ') → (∀ S' H', Stp S H S' H' σ δ δ' → RSt X.K F S' H' σ δ' → Q d H') → ∃ t, PT X e t ∧ t σ H Q) : PT X e (ST X.K F tf) :=
  ⟨fun pins s σ H Q I hw => by
    obtain ⟨S, δ, d, δ', R, hf, q⟩ := hw
    obtain ⟨t, ht, hq⟩ := h S δ d δ' σ H Q R hf q
    exact ht.run pins s σ H Q I hq⟩
theorem pw_of (h : ∀ S δ d δ' σ H Q, RSt X.K F S H σ δ → tf δ = some (d, δ') → (∀ S' H', Stp S H S' H' σ δ δ' → RSt X.K F S' H' σ δ' → Q d H') → ∃ t, PW X e t ∧ t σ H Q) : PW X e (ST X.K F tf) :=
  ⟨fun wh pins s σ H Q I hw => by
    obtain ⟨S, δ, d, δ', R, hf, q⟩ := hw
    obtain ⟨t, ht, hq⟩ := h S δ d δ' σ H Q R hf q
    exact ht.run wh pins s σ H Q I hq⟩
theorem pa_of {es : List Expr} {fa : MA} (h : ∀ S δ d δ' σ H Q, RSt X.K F S H σ δ → fa δ = some (d, δ') → (∀ vs S' H', Stp S H S' H' σ δ δ' → RSt X.K F S' H' σ δ' → DqAll S' vs d → Q vs H') → ∃ t, PA X es t ∧ t σ H Q) : PA X es (SA X.K F fa) :=
  ⟨fun pos pins s σ H Q I hw => by
    obtain ⟨S, δ, d, δ', R, hf, q⟩ := hw
    obtain ⟨t, ht, hq⟩ := h S δ d δ' σ H Q R hf q
    exact ht.run pos pins s σ H Q I hq⟩
theorem pf_of {ff : DE → Option (List D × DE)} (h : ∀ S δ d δ' σ H Q, RSt X.K F S H σ δ → ff δ = some (d, δ') → (∀ a vs S' H', Stp S H S' H' σ δ δ' → RSt X.K F S' H' σ δ' → H a = none → S' a = none → H' a = some (.lst vs) → DqAll S' vs d → Q (.ref a) H') → ∃ t, PE X e t ∧ t σ H Q) : PE X e (SF X.K F ff) :=
  ⟨fun pins s σ H Q I hw => by
    obtain ⟨S, δ, d, δ', R, hf, q⟩ := hw
    obtain ⟨t, ht, hq⟩ := h S δ d δ' σ H Q R hf q
    exact ht.run pins s σ H Q I hq⟩

/-! ### names and constants -/
omit [TabSet] in
def fVar (i : Nat) : M := fun δ => match δ[i]? with
  | some (.sh d) => some (d, δ)
  | _ => none
omit [TabSet] in
def fC (d : D) : M := fun δ => some (d, δ)
theorem e_var {i : Nat} {x : Str} (hN : X.N[i]? = some x := by rfl) (hv : Vis X.env.scope x := by first | exact Or.inl rfl | exact Or.inr (Or.inl rfl) | exact Or.inr (Or.inr rfl)) (hd : (x == ("__debug__" : Str)) = false := by decide)
    (hcd : (x == ("__classdict__" : Str)) = false := by decide) : PE X (.Name x pos) (SE X.K F (fVar i)) := by
  refine pe_of fun S δ d δ' σ H Q R hf q => ⟨tVar i, pe_var hN hv hd hcd, ?_⟩
  unfold fVar at hf
  cases hi : δ[i]? with
  | none => rw [hi] at hf; cases hf
  | some s =>
    rw [hi] at hf
    cases s with
    | sh d0 =>
      cases hf
      have hl : i < σ.length := by rw [R.len]; exact (List.getElem?_eq_some_iff.mp hi).1
      obtain ⟨v, ev, dv⟩ := R.slot i _ _ (List.getElem?_eq_getElem hl) hi
      exact ⟨v, by rw [List.getElem?_eq_getElem hl, ev], q v S H Stp.refl R dv⟩
    | _ => cases hf
theorem se_c {d : D} {v : V} (hv : ∀ S, Dq S v d) (hp : PE X e (tC v)) : PE X e (SE X.K F (fC d)) :=
  pe_of fun S δ d' δ' σ H Q R hf q => ⟨tC v, hp, by
    cases hf
    exact q v S H Stp.refl R (hv S)⟩
theorem e_int {i j} : PE X (.Constant (.int i) j pos) (SE X.K F (fC (.int i))) := se_c (fun _ => .int i) pe_int
theorem e_bl {b j} : PE X (.Constant (.bool b) j pos) (SE X.K F (fC (.bool b))) := se_c (fun _ => .bl b) pe_bl
theorem e_non {j} : PE X (.Constant .none j pos) (SE X.K F (fC .none)) := se_c (fun _ => .non) pe_non
theorem e_str {x j} : PE X (.Constant (.str x) j pos) (SE X.K F (fC (.str x))) := se_c (fun _ => .str x) pe_str

/-! ### two operands -/
omit [TabSet] in
def fOp (op : D → D → Option D) (f g : M) : M := fun δ => match f δ with
  | some (x, δ1) => match g δ1 with
    | some (y, δ2) => match op x y with
      | some z => some (z, δ2)
      | none => none
    | none => none
  | none => none
theorem fOp_of {op : D → D → Option D} {δ δ' : DE} {z : D} (h : fOp op f g δ = some (z, δ')) : ∃ x δ1 y, f δ = some (x, δ1) ∧ g δ1 = some (y, δ') ∧ op x y = some z := by
  unfold fOp at h
  cases hx : f δ with
  | none => rw [hx] at h; cases h
  | some p =>
    obtain ⟨x, δ1⟩ := p
    rw [hx] at h
    simp only at h
    cases hy : g δ1 with
    | none => rw [hy] at h; cases h
    | some p =>
      obtain ⟨y, δ2⟩ := p
      rw [hy] at h
      simp only at h
      cases hz : op x y with
      | none => rw [hz] at h; cases h
      | some w =>
        rw [hz] at h
        cases h
        exact ⟨x, δ1, y, rfl, hy, hz⟩
/-- what a rule by values does, on data -/
def DoesV (r : R2) (d e z : D) : Prop := ∀ S H x y Q, Ex S H → Dq S x d → Dq S y e → (∀ v S' H', Grow S H S' H' → Dq S' v z → Q v H') → r x y H Q
theorem se_op {op : D → D → Option D} (h : ∀ d e' z, op d e' = some z → ∃ r : R2, PE X e (tOp r (SE X.K F f) (SE X.K F g)) ∧ DoesV r d e' z) : PE X e (SE X.K F (fOp op f g)) := by
  refine pe_of fun S δ d δ' σ H Q R hf q => ?_
  obtain ⟨x, δ1, y, h1, h2, h3⟩ := fOp_of hf
  obtain ⟨r, hp, hr⟩ := h x y d h3
  refine ⟨_, hp, S, δ, x, δ1, R, h1, fun v S1 H1 s1 R1 d1 => ⟨S1, δ1, y, δ', R1, h2, fun w S2 H2 s2 R2 d2 => ?_⟩⟩
  exact hr S2 H2 v w Q R2.sub (dq_ext s2.s d1) d2 fun u S3 H3 g3 d3 => q u S3 H3 ((s1.trans s2).trans (Stp.grow g3)) (R2.grow g3) d3
theorem grow_tup {S H : Hp} {p : Addr} {vs : List V} {ds : List D} (e : Ex S H) (its : Array Value) (n : Nat) (hp : H p = none) (h : DqAll S vs ds) : Grow S H (upd S p (.frz (tObj its n) (.tup vs))) (upd H p (.frz (tObj its n) (.tup vs))) ∧ Dq (upd S p (.frz (tObj its n) (.tup vs))) (.ref p) (.tuple ds) :=
  ⟨Grow.new e hp, .tup ⟨its, n, upd_same⟩ (dqa_ext (Grow.new e hp).s h)⟩
theorem grow_lst {S H : Hp} {p : Addr} {vs : List V} {ds : List D} (e : Ex S H) (hp : H p = none) (h : DqAll S vs ds) : Grow S H (upd S p (.lst vs)) (upd H p (.lst vs)) ∧ Dq (upd S p (.lst vs)) (.ref p) (.list ds) :=
  ⟨Grow.new e hp, .lst upd_same (dqa_ext (Grow.new e hp).s h)⟩
theorem sz_of {n : Nat} (h : n ≤ 100000) : n ≤ sizeLine := Evl.sz_of h
omit [TabSet] in
def small (i : Int) : Bool := decide (-18446744073709551616 < i) && decide (i < 18446744073709551616)
theorem small_of {i : Int} (h : small i = true) : -(2 ^ 64) < i ∧ i < 2 ^ 64 := by
  unfold small at h
  rw [Bool.and_eq_true, decide_eq_true_eq, decide_eq_true_eq] at h
  omega
omit [TabSet] in
def opAdd : D → D → Option D
  | .int i, .int j => some (.int (i + j))
  | .tuple xs, .tuple ys => if xs.length + ys.length ≤ 100000 then some (.tuple (xs ++ ys)) else none
  | .list xs, .list ys => if xs.length + ys.length ≤ 100000 then some (.list (xs ++ ys)) else none
  | .str x, .str y => if x.length + y.length ≤ 100000 then some (.str (x ++ y)) else none
  | _, _ => none
omit [TabSet] in
def opSub : D → D → Option D
  | .int i, .int j => some (.int (i - j))
  | _, _ => none
omit [TabSet] in
def opMul : D → D → Option D
  | .int i, .int j => if small i || small j then some (.int (i * j)) else none
  | .list xs, .int k => if 0 ≤ k ∧ k ≤ 1000 ∧ xs.length ≤ 100 then some (.list (List.replicate k.toNat xs).flatten) else none
  | .tuple xs, .int k => if -1000 ≤ k ∧ k ≤ 1000 ∧ xs.length ≤ 100 then some (.tuple (List.replicate k.toNat xs).flatten) else none
  | _, _ => none
omit [TabSet] in
def opDiv : D → D → Option D
  | .int i, .int j => if j ≠ 0 ∧ j.natAbs < 1073741824 then some (.int (i.fdiv j)) else none
  | _, _ => none
omit [TabSet] in
def opMod : D → D → Option D
  | .int i, .int j => if j ≠ 0 then some (.int (i.fmod j)) else none
  | _, _ => none
omit [TabSet] in
def opPow : D → D → Option D
  | .int i, .int j => if 0 ≤ j ∧ j ≤ 1000 ∧ small i = true then some (.int (i ^ j.toNat)) else none
  | _, _ => none
omit [TabSet] in
def opShl : D → D → Option D
  | .int i, .int j => if 0 ≤ j ∧ j ≤ 1000000 ∧ small i = true then some (.int (i * 2 ^ j.toNat)) else none
  | _, _ => none
omit [TabSet] in
def opShr : D → D → Option D
  | .int i, .int j => if 0 ≤ j then some (.int (i / 2 ^ j.toNat)) else none
  | _, _ => none
omit [TabSet] in
def opAnd : D → D → Option D
  | .int i, .int j => some (.int (Builtin.bitAnd i j))
  | _, _ => none
theorem e_add (ha : PE X a (SE X.K F f)) (hb : PE X b (SE X.K F g)) : PE X (.BinOp a .Add b pos) (SE X.K F (fOp opAdd f g)) := by
  refine se_op fun d e' z hz => ?_
  cases d <;> cases e' <;> simp only [opAdd] at hz <;> first | cases hz | skip
  · exact ⟨_, pe_op op_add ha hb, fun S H x y Q ex h1 h2 q => ⟨_, _, dq_int h1, dq_int h2, q _ S H (Grow.refl ex) (.int _)⟩⟩
  · split at hz
    · rename_i hc
      cases hz
      refine ⟨_, pe_op op_add_str ha hb, fun S H x y Q ex h1 h2 q => ⟨_, _, dq_str h1, dq_str h2, sz_of hc, q _ S H (Grow.refl ex) (.str _)⟩⟩
    · cases hz
  · split at hz
    · rename_i hc
      cases hz
      refine ⟨_, pe_op op_cat ha hb, fun S H x y Q ex h1 h2 q => ?_⟩
      obtain ⟨p1, v1, rfl, e1, d1⟩ := dq_list h1
      obtain ⟨p2, v2, rfl, e2, d2⟩ := dq_list h2
      refine ⟨p1, p2, v1, v2, rfl, rfl, ex _ _ e1, ex _ _ e2, sz_of (by rw [dqa_len d1, dqa_len d2]; exact hc), fun p hp => ?_⟩
      obtain ⟨g1, g2⟩ := grow_lst ex hp (dqa_app d1 d2)
      exact q _ _ _ g1 g2
    · cases hz
  · split at hz
    · rename_i hc
      cases hz
      refine ⟨_, pe_op op_catF ha hb, fun S H x y Q ex h1 h2 q => ?_⟩
      obtain ⟨p1, v1, rfl, e1, d1⟩ := dq_tup h1
      obtain ⟨p2, v2, rfl, e2, d2⟩ := dq_tup h2
      refine ⟨p1, p2, v1, v2, rfl, rfl, Tp.sq (Tp.ext ex e1), Tp.sq (Tp.ext ex e2), sz_of (by rw [dqa_len d1, dqa_len d2]; exact hc), fun hn => ?_, fun _ hn => ?_, fun _ _ p its n hp => ?_⟩
      · subst hn
        cases d1
        exact q _ S H (Grow.refl ex) (.tup e2 d2)
      · subst hn
        cases d2
        rw [List.append_nil] at q
        exact q _ S H (Grow.refl ex) (.tup e1 d1)
      · obtain ⟨g1, g2⟩ := grow_tup ex its n hp (dqa_app d1 d2)
        exact q _ _ _ g1 g2
    · cases hz
theorem e_sub (ha : PE X a (SE X.K F f)) (hb : PE X b (SE X.K F g)) : PE X (.BinOp a .Sub b pos) (SE X.K F (fOp opSub f g)) := by
  refine se_op fun d e' z hz => ?_
  cases d <;> cases e' <;> simp only [opSub] at hz <;> first | cases hz | skip
  exact ⟨_, pe_op op_sub ha hb, fun S H x y Q ex h1 h2 q => ⟨_, _, dq_int h1, dq_int h2, q _ S H (Grow.refl ex) (.int _)⟩⟩
theorem dqa_rep {S : Hp} {vs : List V} {ds : List D} (h : DqAll S vs ds) : ∀ n : Nat, DqAll S (List.replicate n vs).flatten (List.replicate n ds).flatten
  | 0 => .nil
  | n + 1 => by
    rw [List.replicate_succ, List.replicate_succ, List.flatten_cons, List.flatten_cons]
    exact dqa_app h (dqa_rep h n)
theorem e_mul (ha : PE X a (SE X.K F f)) (hb : PE X b (SE X.K F g)) : PE X (.BinOp a .Mult b pos) (SE X.K F (fOp opMul f g)) := by
  refine se_op fun d e' z hz => ?_
  cases d <;> cases e' <;> simp only [opMul] at hz <;> first | cases hz | skip
  · split at hz
    · rename_i hc
      cases hz
      refine ⟨_, pe_op op_mul ha hb, fun S H x y Q ex h1 h2 q => ⟨_, _, dq_int h1, dq_int h2, ?_, q _ S H (Grow.refl ex) (.int _)⟩⟩
      rcases (Bool.or_eq_true _ _).mp hc with k | k
      · exact .inl (small_of k)
      · exact .inr (small_of k)
    · cases hz
  · split at hz
    · rename_i hc
      obtain ⟨c1, c2, c3⟩ := hc
      cases hz
      refine ⟨_, pe_op op_rep ha hb, fun S H x y Q ex h1 h2 q => ?_⟩
      obtain ⟨p1, v1, rfl, e1, d1⟩ := dq_list h1
      have hlen := dqa_len d1
      refine ⟨p1, _, v1, rfl, dq_int h2, ex _ _ e1, by omega, by omega, sz_of ?_, fun p hp => ?_⟩
      · rw [hlen]
        exact Nat.le_trans (Nat.mul_le_mul c3 (by omega : _ ≤ 1000)) (by decide)
      · obtain ⟨g1, g2⟩ := grow_lst ex hp (dqa_rep d1 _)
        exact q _ _ _ g1 g2
    · cases hz
  · split at hz
    · rename_i hc
      obtain ⟨c1, c2, c3⟩ := hc
      cases hz
      refine ⟨_, pe_op op_repF ha hb, fun S H x y Q ex h1 h2 q => ?_⟩
      obtain ⟨p1, v1, rfl, e1, d1⟩ := dq_tup h1
      have hlen := dqa_len d1
      refine ⟨p1, _, v1, rfl, dq_int h2, Tp.sq (Tp.ext ex e1), c1, c2, by omega, fun hn => ?_, fun hn p its n hp => ?_⟩
      · refine q _ S H (Grow.refl ex) ?_
        rename_i z1 z2
        have e : ∀ k : Int, ∀ zs : List D, (zs = [] ∨ k = 1) → (List.replicate k.toNat zs).flatten = zs := by
          intro k zs hh
          rcases hh with hh | hh
          · subst hh
            simp
          · rw [hh]
            simp
        rw [e _ _ (hn.imp (fun hh => by subst hh; cases d1; rfl) id)]
        exact .tup e1 d1
      · obtain ⟨g1, g2⟩ := grow_tup ex its n hp (dqa_rep d1 _)
        exact q _ _ _ g1 g2
    · cases hz
theorem e_fdiv (ha : PE X a (SE X.K F f)) (hb : PE X b (SE X.K F g)) : PE X (.BinOp a .FloorDiv b pos) (SE X.K F (fOp opDiv f g)) := by
  refine se_op fun d e' z hz => ?_
  cases d <;> cases e' <;> simp only [opDiv] at hz <;> first | cases hz | skip
  split at hz
  · rename_i hc
    cases hz
    exact ⟨_, pe_op op_fdivN ha hb, fun S H x y Q ex h1 h2 q => ⟨_, _, dq_int h1, dq_int h2, hc, q _ S H (Grow.refl ex) (.int _)⟩⟩
  · cases hz
theorem e_mod (ha : PE X a (SE X.K F f)) (hb : PE X b (SE X.K F g)) : PE X (.BinOp a .Mod b pos) (SE X.K F (fOp opMod f g)) := by
  refine se_op fun d e' z hz => ?_
  cases d <;> cases e' <;> simp only [opMod] at hz <;> first | cases hz | skip
  split at hz
  · rename_i hc
    cases hz
    exact ⟨_, pe_op op_modN ha hb, fun S H x y Q ex h1 h2 q => ⟨_, _, dq_int h1, dq_int h2, hc, q _ S H (Grow.refl ex) (.int _)⟩⟩
  · cases hz
theorem e_pow (ha : PE X a (SE X.K F f)) (hb : PE X b (SE X.K F g)) : PE X (.BinOp a .Pow b pos) (SE X.K F (fOp opPow f g)) := by
  refine se_op fun d e' z hz => ?_
  cases d <;> cases e' <;> simp only [opPow] at hz <;> first | cases hz | skip
  split at hz
  · rename_i i j hc
    cases hz
    have hs := small_of hc.2.2
    exact ⟨_, pe_op op_pow ha hb, fun S H x y Q ex h1 h2 q => ⟨_, _, dq_int h1, dq_int h2, ⟨hc.1, by omega, by omega⟩, q _ S H (Grow.refl ex) (.int _)⟩⟩
  · cases hz
theorem e_shl (ha : PE X a (SE X.K F f)) (hb : PE X b (SE X.K F g)) : PE X (.BinOp a .LShift b pos) (SE X.K F (fOp opShl f g)) := by
  refine se_op fun d e' z hz => ?_
  cases d <;> cases e' <;> simp only [opShl] at hz <;> first | cases hz | skip
  split at hz
  · rename_i i j hc
    cases hz
    have hs := small_of hc.2.2
    exact ⟨_, pe_op op_shl ha hb, fun S H x y Q ex h1 h2 q => ⟨_, _, dq_int h1, dq_int h2, ⟨hc.1, by omega, by omega⟩, q _ S H (Grow.refl ex) (.int _)⟩⟩
  · cases hz
theorem e_shr (ha : PE X a (SE X.K F f)) (hb : PE X b (SE X.K F g)) : PE X (.BinOp a .RShift b pos) (SE X.K F (fOp opShr f g)) := by
  refine se_op fun d e' z hz => ?_
  cases d <;> cases e' <;> simp only [opShr] at hz <;> first | cases hz | skip
  split at hz
  · rename_i i j hc
    cases hz
    exact ⟨_, pe_op op_shr ha hb, fun S H x y Q ex h1 h2 q => ⟨_, _, dq_int h1, dq_int h2, hc, q _ S H (Grow.refl ex) (.int _)⟩⟩
  · cases hz
theorem e_band (ha : PE X a (SE X.K F f)) (hb : PE X b (SE X.K F g)) : PE X (.BinOp a .BitAnd b pos) (SE X.K F (fOp opAnd f g)) := by
  refine se_op fun d e' z hz => ?_
  cases d <;> cases e' <;> simp only [opAnd] at hz <;> first | cases hz | skip
  exact ⟨_, pe_op op_and ha hb, fun S H x y Q ex h1 h2 q => ⟨_, _, dq_int h1, dq_int h2, q _ S H (Grow.refl ex) (.int _)⟩⟩
omit [TabSet] in
/-- -a -/
def fNeg (f : M) : M := fun δ => match f δ with
  | some (.int i, δ1) => some (.int (-i), δ1)
  | _ => none
theorem e_neg (ha : PE X a (SE X.K F f)) : PE X (.UnaryOp .USub a pos) (SE X.K F (fNeg f)) := by
  refine pe_of fun S δ d δ' σ H Q R hf q => ⟨_, pe_un un_neg ha, ?_⟩
  unfold fNeg at hf
  split at hf
  · rename_i i δ1 h1
    cases hf
    exact ⟨S, δ, _, _, R, h1, fun v S1 H1 s1 R1 d1 => ⟨i, dq_int d1, q _ S1 H1 s1 R1 (.int _)⟩⟩
  · cases hf
end
end Sd

/-! Comparisons, tests, displays, places, slices. -/
namespace Sd
open PySem PySem.Spec PyProof.Rows L2
open Evl (Ex)
variable [TabSet]
section
variable {X : Cx} {F : Fr} {e a b c : Expr} {pos : Pos} {f g h : M} {tf tg : MT}

/-! ### comparisons -/
omit [TabSet] in
def fCmp (o : D → D → Option Bool) (f g : M) : M := fOp (fun x y => (o x y).map .bool) f g
omit [TabSet] in
def fCmpT (o : D → D → Option Bool) (f g : M) : MT := fun δ => match fCmp o f g δ with
  | some (.bool b, δ') => some (b, δ')
  | _ => none
omit [TabSet] in
/-- a comparison by a rule by values -/
def CmpOk (X : Cx) (op : CmpOp) (o : D → D → Option Bool) : Prop := ∀ d e k, o d e = some k → ∃ r : R2, OpR X (compareOp op) r ∧ ∀ S H x y Q, Ex S H → Dq S x d → Dq S y e → Q (.bl k) H → r x y H Q
theorem e_cmp {op : CmpOp} {o : D → D → Option Bool} (ho : CmpOk X op o) (ha : PE X a (SE X.K F f)) (hb : PE X b (SE X.K F g)) (hm : behindInMarks op b = false := by first | exact nomark _ | rfl) : PE X (.Compare a [op] [b] pos) (SE X.K F (fCmp o f g)) := by
  refine se_op fun d e' z hz => ?_
  cases hk : o d e' with
  | none => rw [hk] at hz; cases hz
  | some k =>
    rw [hk] at hz
    cases hz
    obtain ⟨r, h1, h2⟩ := ho d e' k hk
    exact ⟨r, pe_cmpR h1 ha hb hm, fun S H x y Q ex d1 d2 q => h2 S H x y Q ex d1 d2 (q _ S H (Grow.refl ex) (.bl k))⟩
theorem t_of_e {ff : M} (hp : ∀ σ H (Q : Bool → Hp → Prop), SE X.K F ff σ H (fun v H' => ∃ k, v = .bl k ∧ Q k H') → ∃ t, PT X e t ∧ t σ H Q) : PT X e (ST X.K F fun δ => match ff δ with
  | some (.bool b, δ') => some (b, δ')
  | _ => none) := by
  refine pt_of fun S δ k δ' σ H Q R hf q => ?_
  cases hz : ff δ with
  | none => rw [hz] at hf; cases hf
  | some p =>
    obtain ⟨z, δ2⟩ := p
    rw [hz] at hf
    cases z with
    | bool k' =>
      cases hf
      exact hp σ H Q ⟨S, δ, .bool k, δ', R, hz, fun v S' H' s' R' dv => ⟨k, dq_bool dv, q S' H' s' R'⟩⟩
    | _ => cases hf
theorem t_cmp {op : CmpOp} {o : D → D → Option Bool} (ho : CmpOk X op o) (ha : PE X a (SE X.K F f)) (hb : PE X b (SE X.K F g)) (hm : behindInMarks op b = false := by first | exact nomark _ | rfl) : PT X (.Compare a [op] [b] pos) (ST X.K F (fCmpT o f g)) := by
  refine t_of_e (ff := fCmp o f g) fun σ H Q hw => ?_
  obtain ⟨S, δ, d, δ', R, hf, q⟩ := hw
  obtain ⟨x, δ1, y, h1, h2, h3⟩ := fOp_of hf
  cases hk : o x y with
  | none => rw [hk] at h3; cases h3
  | some k =>
    rw [hk] at h3
    cases h3
    obtain ⟨r, k1, k2⟩ := ho x y k hk
    refine ⟨_, pt_cmpR k1 ha hb hm, S, δ, x, δ1, R, h1, fun v S1 H1 s1 R1 d1 => ⟨S1, δ1, y, δ', R1, h2, fun w S2 H2 s2 R2 d2 => ?_⟩⟩
    exact k2 S2 H2 v w _ R2.sub (dq_ext s2.s d1) d2 (q _ S2 H2 (s1.trans s2) R2 (.bl k))
omit [TabSet] in
def fChain (o o' : D → D → Option Bool) (f g h : M) : M := fun δ => match f δ with
  | some (x, δ1) => match g δ1 with
    | some (y, δ2) => match o x y with
      | some true => match h δ2 with
        | some (z, δ3) => (o' y z).map fun k => (.bool k, δ3)
        | none => none
      | some false => some (.bool false, δ2)
      | none => none
    | none => none
  | none => none
omit [TabSet] in
def fChainT (o o' : D → D → Option Bool) (f g h : M) : MT := fun δ => match fChain o o' f g h δ with
  | some (.bool b, δ') => some (b, δ')
  | _ => none
theorem chain_run {o o' : D → D → Option Bool} {r r' : R2} {S : Hp} {δ δ' : DE} {d : D} {σ : L2.St} {H : Hp} {Q : VK} {op op' : CmpOp} (ho : CmpOk X op o) (ho' : CmpOk X op' o') (R : RSt X.K F S H σ δ) (hf : fChain o o' f g h δ = some (d, δ'))
    (q : ∀ v S' H', Stp S H S' H' σ δ δ' → RSt X.K F S' H' σ δ' → Dq S' v d → Q v H') : ∃ r r', OpR X (compareOp op) r ∧ OpR X (compareOp op') r' ∧ tChain r r' (SE X.K F f) (SE X.K F g) (SE X.K F h) σ H Q := by
  unfold fChain at hf
  cases h1 : f δ with
  | none => rw [h1] at hf; cases hf
  | some p =>
    obtain ⟨x, δ1⟩ := p
    rw [h1] at hf
    simp only at hf
    cases h2 : g δ1 with
    | none => rw [h2] at hf; cases hf
    | some p =>
      obtain ⟨y, δ2⟩ := p
      rw [h2] at hf
      simp only at hf
      cases hk : o x y with
      | none => rw [hk] at hf; cases hf
      | some k =>
        rw [hk] at hf
        obtain ⟨r, k1, k2⟩ := ho x y k hk
        cases k with
        | false =>
          cases hf
          refine ⟨r, _, k1, op_never, S, δ, x, δ1, R, h1, fun v S1 H1 s1 R1 d1 => ⟨S1, δ1, y, _, R1, h2, fun w S2 H2 s2 R2 d2 => ?_⟩⟩
          exact k2 S2 H2 v w _ R2.sub (dq_ext s2.s d1) d2 ⟨false, rfl, q _ S2 H2 (s1.trans s2) R2 (.bl _)⟩
        | true =>
          simp only at hf
          cases h3 : h δ2 with
          | none => rw [h3] at hf; cases hf
          | some p =>
            obtain ⟨z, δ3⟩ := p
            rw [h3] at hf
            simp only at hf
            cases hk' : o' y z with
            | none => rw [hk'] at hf; cases hf
            | some k' =>
              rw [hk'] at hf
              cases hf
              obtain ⟨r', l1, l2⟩ := ho' y z k' hk'
              refine ⟨r, r', k1, l1, S, δ, x, δ1, R, h1, fun v S1 H1 s1 R1 d1 => ⟨S1, δ1, y, _, R1, h2, fun w S2 H2 s2 R2 d2 => ?_⟩⟩
              refine k2 S2 H2 v w _ R2.sub (dq_ext s2.s d1) d2 ⟨true, rfl, ?_⟩
              show SE X.K F h σ H2 _
              refine ⟨S2, δ2, z, _, R2, h3, fun u S3 H3 s3 R3 d3 => ?_⟩
              exact l2 S3 H3 w u _ R3.sub (dq_ext s3.s d2) d3 (q _ S3 H3 ((s1.trans s2).trans s3) R3 (.bl _))
where op_never {op : CmpOp} : OpR X (compareOp op) (fun _ _ _ _ => False) := fun _ _ _ _ _ _ _ _ _ _ _ _ h => h.elim
theorem e_chain {op op' : CmpOp} {o o' : D → D → Option Bool} (ho : CmpOk X op o) (ho' : CmpOk X op' o') (ha : PE X a (SE X.K F f)) (hb : PE X b (SE X.K F g)) (hc : PE X c (SE X.K F h))
    (hm : lastMarks [op, op'] [b, c] = false := by with_unfolding_all rfl) : PE X (.Compare a [op, op'] [b, c] pos) (SE X.K F (fChain o o' f g h)) :=
  pe_of fun S δ d δ' σ H Q R hf q => by
    obtain ⟨r, r', h1, h2, h3⟩ := chain_run (r := fun _ _ _ _ => False) (r' := fun _ _ _ _ => False) ho ho' R hf q
    exact ⟨_, pe_chain h1 h2 ha hb hc hm, h3⟩
theorem t_chain {op op' : CmpOp} {o o' : D → D → Option Bool} (ho : CmpOk X op o) (ho' : CmpOk X op' o') (ha : PE X a (SE X.K F f)) (hb : PE X b (SE X.K F g)) (hc : PE X c (SE X.K F h))
    (hm : lastMarks [op, op'] [b, c] = false := by with_unfolding_all rfl) : PT X (.Compare a [op, op'] [b, c] pos) (ST X.K F (fChainT o o' f g h)) := by
  refine t_of_e (ff := fChain o o' f g h) fun σ H Q hw => ?_
  obtain ⟨S, δ, d, δ', R, hf, q⟩ := hw
  obtain ⟨r, r', h1, h2, h3⟩ := chain_run (r := fun _ _ _ _ => False) (r' := fun _ _ _ _ => False) ho ho' R hf q
  exact ⟨_, pt_chain h1 h2 ha hb hc hm, h3⟩

omit [TabSet] in
def cLt : D → D → Option Bool
  | .int i, .int j => some (decide (i < j))
  | _, _ => none
omit [TabSet] in
def cLe : D → D → Option Bool
  | .int i, .int j => some (decide (i ≤ j))
  | _, _ => none
omit [TabSet] in
def cGt : D → D → Option Bool
  | .int i, .int j => some (decide (j < i))
  | _, _ => none
omit [TabSet] in
def cGe : D → D → Option Bool
  | .int i, .int j => some (decide (j ≤ i))
  | _, _ => none
omit [TabSet] in
def cEq (d e : D) : Option Bool := if SeqAt.shaped d = true ∧ SeqAt.shaped e = true then some (PyData.eqv d e) else none
omit [TabSet] in
def cNe (d e : D) : Option Bool := if SeqAt.shaped d = true ∧ SeqAt.shaped e = true then some (!PyData.eqv d e) else none
theorem ck_lt : CmpOk X .Lt cLt := fun d e k hk => by
  cases d <;> cases e <;> simp only [cLt] at hk <;> cases hk
  exact ⟨_, op_lt, fun S H x y Q ex h1 h2 q => ⟨_, _, dq_int h1, dq_int h2, q⟩⟩
theorem ck_le : CmpOk X .LtE cLe := fun d e k hk => by
  cases d <;> cases e <;> simp only [cLe] at hk <;> cases hk
  exact ⟨_, op_le, fun S H x y Q ex h1 h2 q => ⟨_, _, dq_int h1, dq_int h2, q⟩⟩
theorem ck_gt : CmpOk X .Gt cGt := fun d e k hk => by
  cases d <;> cases e <;> simp only [cGt] at hk <;> cases hk
  exact ⟨_, op_gt, fun S H x y Q ex h1 h2 q => ⟨_, _, dq_int h1, dq_int h2, q⟩⟩
theorem ck_ge : CmpOk X .GtE cGe := fun d e k hk => by
  cases d <;> cases e <;> simp only [cGe] at hk <;> cases hk
  exact ⟨_, op_ge, fun S H x y Q ex h1 h2 q => ⟨_, _, dq_int h1, dq_int h2, q⟩⟩
theorem ck_eq {n : Nat} (hr : Room n X.A) : CmpOk X .Eq cEq := fun d e k hk => by
  unfold cEq at hk
  split at hk
  · rename_i hc
    cases hk
    exact ⟨_, op_eqD hr.units, fun S H x y Q ex h1 h2 q => ⟨d, e, dq_dp (dq_ext ex h1) (SeqAt.canLay_of_shaped hc.1), dq_dp (dq_ext ex h2) (SeqAt.canLay_of_shaped hc.2), hc.1, hc.2, q⟩⟩
  · cases hk
theorem ck_ne {n : Nat} (hr : Room n X.A) : CmpOk X .NotEq cNe := fun d e k hk => by
  unfold cNe at hk
  split at hk
  · rename_i hc
    cases hk
    exact ⟨_, op_neD hr.units, fun S H x y Q ex h1 h2 q => ⟨d, e, dq_dp (dq_ext ex h1) (SeqAt.canLay_of_shaped hc.1), dq_dp (dq_ext ex h2) (SeqAt.canLay_of_shaped hc.2), hc.1, hc.2, q⟩⟩
  · cases hk
omit [TabSet] in
def isNone : D → Bool
  | .none => true
  | _ => false
omit [TabSet] in
def cIs : D → D → Option Bool
  | d, .none => some (isNone d)
  | .bool a, .bool b => some (decide (a = b))
  | _, _ => none
omit [TabSet] in
def cIsN : D → D → Option Bool
  | d, .none => some (!isNone d)
  | .bool a, .bool b => some (!decide (a = b))
  | _, _ => none
theorem isNone_of {S : Hp} {x : V} {d : D} (h : Dq S x d) : decide (x = V.non) = isNone d := by
  cases h <;> rfl
theorem ck_is : CmpOk X .Is cIs := fun d e k hk => by
  cases e with
  | none =>
    have hk' : k = isNone d := by cases d <;> exact (Option.some.inj hk).symm
    refine ⟨_, op_isN, fun S H x y Q ex h1 h2 q => ⟨dq_none h2, ?_⟩⟩
    rw [isNone_of h1, ← hk']
    exact q
  | bool b' =>
    cases d <;> simp only [cIs] at hk <;> cases hk
    exact ⟨_, op_isBl, fun S H x y Q ex h1 h2 q => ⟨_, _, dq_bool h1, dq_bool h2, q⟩⟩
  | _ => cases d <;> simp only [cIs] at hk <;> cases hk
theorem ck_isn : CmpOk X .IsNot cIsN := fun d e k hk => by
  cases e with
  | none =>
    have hk' : k = !isNone d := by cases d <;> exact (Option.some.inj hk).symm
    refine ⟨_, op_notN, fun S H x y Q ex h1 h2 q => ⟨dq_none h2, ?_⟩⟩
    rw [isNone_of h1, ← hk']
    exact q
  | bool b' =>
    cases d <;> simp only [cIsN] at hk <;> cases hk
    exact ⟨_, op_notBl, fun S H x y Q ex h1 h2 q => ⟨_, _, dq_bool h1, dq_bool h2, q⟩⟩
  | _ => cases d <;> simp only [cIsN] at hk <;> cases hk
omit [TabSet] in
/-- flat data -/
def flat : D → Bool
  | .none => true
  | .bool _ => true
  | .int _ => true
  | .str _ => true
  | _ => false
theorem flat_of {S : Hp} {x : V} {d : D} (h : Dq S x d) (f : flat d = true) : flatV x = true := by
  cases h <;> first | rfl | cases f
theorem flats_of {S : Hp} : ∀ {xs : List V} {ds : List D}, DqAll S xs ds → ds.all flat = true → xs.all flatV = true
  | _, _, .nil, _ => rfl
  | _, _, .cons h t, f => by
    rw [List.all_cons, Bool.and_eq_true] at f
    rw [List.all_cons, flat_of h f.1, flats_of t f.2]
    rfl
theorem eqv_flat {S : Hp} {x y : V} {d e : D} (h1 : Dq S y d) (h2 : Dq S x e) (f : flat d = true) (g : flat e = true) : eqV y x = PyData.eqv d e := by
  cases h1 <;> cases h2 <;> simp_all [flat, eqV, PyData.eqv]
theorem inV_of {S : Hp} {x : V} {d : D} (hx : Dq S x d) (fx : flat d = true) : ∀ {xs : List V} {ds : List D}, DqAll S xs ds → ds.all flat = true → inV x xs = ds.any fun z => PyData.eqv z d
  | _, _, .nil, _ => rfl
  | _, _, .cons h t, f => by
    rw [List.all_cons, Bool.and_eq_true] at f
    have ih := inV_of hx fx t f.2
    unfold inV at ih ⊢
    rw [List.any_cons, List.any_cons, ih, eqv_flat h hx f.1 fx]
omit [TabSet] in
def cIn : D → D → Option Bool
  | d, .list ds => if SeqAt.shaped d = true ∧ SeqAt.shaped (.list ds) = true then some (ds.any fun z => PyData.eqv z d) else none
  | d, .tuple ds => if flat d = true ∧ ds.all flat = true then some (ds.any fun z => PyData.eqv z d) else none
  | _, _ => none
omit [TabSet] in
def cNotIn (d e : D) : Option Bool := (cIn d e).map fun k => !k
theorem hu65 {n : Nat} {A : Around} (hr : Room n A) : A.units + 65 < cLine := by have := hr.un; omega
theorem ck_in {n : Nat} (hr : Room n X.A) : CmpOk X .In cIn := fun d e k hk => by
  cases e <;> simp only [cIn] at hk <;> first | cases hk | skip
  · split at hk
    · rename_i hc
      cases hk
      exact ⟨_, op_inD (hu65 hr), fun S H x y Q ex h1 h2 q => ⟨d, _, dq_dp (dq_ext ex h1) (SeqAt.canLay_of_shaped hc.1), dq_dp (dq_ext ex h2) (SeqAt.canLay_of_shaped hc.2), hc.1, hc.2, q⟩⟩
    · cases hk
  · split at hk
    · rename_i hc
      cases hk
      refine ⟨_, op_in_seq, fun S H x y Q ex h1 h2 q => ?_⟩
      obtain ⟨p, vs, rfl, e1, d1⟩ := dq_tup h2
      refine ⟨p, vs, rfl, .inr (Tp.sq (Tp.ext ex e1)), flat_of h1 hc.1, flats_of d1 hc.2, ?_⟩
      rw [if_neg Bool.false_ne_true, inV_of h1 hc.1 d1 hc.2]
      exact q
    · cases hk
theorem ck_notin {n : Nat} (hr : Room n X.A) : CmpOk X .NotIn cNotIn := fun d e k hk => by
  unfold cNotIn at hk
  cases e <;> simp only [cIn] at hk <;> first | cases hk | skip
  · split at hk
    · rename_i hc
      cases hk
      exact ⟨_, op_notInD (hu65 hr), fun S H x y Q ex h1 h2 q => ⟨d, _, dq_dp (dq_ext ex h1) (SeqAt.canLay_of_shaped hc.1), dq_dp (dq_ext ex h2) (SeqAt.canLay_of_shaped hc.2), hc.1, hc.2, q⟩⟩
    · cases hk
  · split at hk
    · rename_i hc
      cases hk
      refine ⟨_, op_notIn_seq, fun S H x y Q ex h1 h2 q => ?_⟩
      obtain ⟨p, vs, rfl, e1, d1⟩ := dq_tup h2
      refine ⟨p, vs, rfl, .inr (Tp.sq (Tp.ext ex e1)), flat_of h1 hc.1, flats_of d1 hc.2, ?_⟩
      rw [if_pos rfl, inV_of h1 hc.1 d1 hc.2]
      exact q
    · cases hk

/-! ### tests -/
omit [TabSet] in
/-- a value that is True or False, as a test -/
def fB (f : M) : MT := fun δ => match f δ with
  | some (.bool b, δ') => some (b, δ')
  | _ => none
theorem t_val (ha : PE X e (SE X.K F f)) (he : ∀ whole, isTrue e X.env whole = (do let v ← whole; standAt e.pos; holding [v] (truthy v)) := by intro _; rfl) : PT X e (ST X.K F (fB f)) :=
  t_of_e (ff := f) fun σ H Q hw => ⟨_, pt_val ha he, hw⟩
omit [TabSet] in
/-- a value's truth -/
def truth : D → Option Bool
  | .none => some false
  | .bool b => some b
  | .int i => some (i != 0)
  | .str x => if x.length ≤ 100000 then some ((x.length : Int) != 0) else none
  | .list ds => some (!ds.isEmpty)
  | .tuple ds => some (!ds.isEmpty)
  | _ => none
theorem dqa_emp {S : Hp} {vs : List V} {ds : List D} (h : DqAll S vs ds) : (!ds.isEmpty) = !vs.isEmpty := by cases h <;> rfl
theorem truth_of {S H : Hp} {K : PySem.W.Frag} {x : V} {d : D} {k : Bool} (ex : Ex S H) (h : Dq S x d) (ht : truth d = some k) : TruV K x H k := by
  cases h with
  | non => exact (Option.some.inj ht).symm
  | bl b => exact (Option.some.inj ht).symm
  | int i => exact (Option.some.inj ht).symm
  | str z =>
    simp only [truth] at ht
    split at ht
    · rename_i hc
      exact ⟨sz_of hc, (Option.some.inj ht).symm⟩
    · cases ht
  | lst e1 d1 =>
    refine .inl ⟨_, SqL.of (ex _ _ e1), ?_⟩
    rw [← dqa_emp d1]
    exact (Option.some.inj ht).symm
  | tup e1 d1 =>
    refine .inr (.inl ⟨_, Tp.sq (Tp.ext ex e1), ?_⟩)
    rw [← dqa_emp d1]
    exact (Option.some.inj ht).symm
  | dcK => simp [truth] at ht
  | dcT => simp [truth] at ht
  | wt => simp [truth] at ht
omit [TabSet] in
def fTruth (f : M) : MT := fun δ => match f δ with
  | some (d, δ') => (truth d).map fun b => (b, δ')
  | _ => none
theorem t_truth (ha : PE X e (SE X.K F f)) (he : ∀ whole, isTrue e X.env whole = (do let v ← whole; standAt e.pos; holding [v] (truthy v)) := by intro _; rfl) : PT X e (ST X.K F (fTruth f)) := by
  refine pt_of fun S δ k δ' σ H Q R hf q => ⟨_, pt_truth ha he, ?_⟩
  unfold fTruth at hf
  cases h1 : f δ with
  | none => rw [h1] at hf; cases hf
  | some p =>
    obtain ⟨d, δ1⟩ := p
    rw [h1] at hf
    simp only at hf
    cases h2 : truth d with
    | none => rw [h2] at hf; cases hf
    | some k' =>
      rw [h2] at hf
      cases hf
      exact ⟨S, δ, d, δ', R, h1, fun v S1 H1 s1 R1 d1 => ⟨k, truth_of R1.sub d1 h2, q S1 H1 s1 R1⟩⟩
omit [TabSet] in
def fNotT (tf : MT) : MT := fun δ => match tf δ with
  | some (b, δ') => some (!b, δ')
  | none => none
theorem t_not (ha : PT X a (ST X.K F tf)) : PT X (.UnaryOp .Not a pos) (ST X.K F (fNotT tf)) := by
  refine pt_of fun S δ k δ' σ H Q R hf q => ⟨_, pt_not ha, ?_⟩
  unfold fNotT at hf
  cases h1 : tf δ with
  | none => rw [h1] at hf; cases hf
  | some p =>
    obtain ⟨b, δ1⟩ := p
    rw [h1] at hf
    cases hf
    exact ⟨S, δ, b, _, R, h1, fun S1 H1 s1 R1 => q S1 H1 s1 R1⟩
omit [TabSet] in
def fAndT (tf tg : MT) : MT := fun δ => match tf δ with
  | some (true, δ') => tg δ'
  | some (false, δ') => some (false, δ')
  | none => none
omit [TabSet] in
def fOrT (tf tg : MT) : MT := fun δ => match tf δ with
  | some (true, δ') => some (true, δ')
  | some (false, δ') => tg δ'
  | none => none
variable {rest : List Expr}
theorem w_and1 (ha : PT X a (ST X.K F tf)) : PW X (.BoolOp .And [a] pos) (ST X.K F tf) := pw_and1 ha
theorem w_or1 (ha : PT X a (ST X.K F tf)) : PW X (.BoolOp .Or [a] pos) (ST X.K F tf) := pw_or1 ha
theorem w_and (ha : PT X a (ST X.K F tf)) (hb : PW X (.BoolOp .And (b :: rest) pos) (ST X.K F tg)) : PW X (.BoolOp .And (a :: b :: rest) pos) (ST X.K F (fAndT tf tg)) := by
  refine pw_of fun S δ k δ' σ H Q R hf q => ⟨_, pw_and ha hb, ?_⟩
  unfold fAndT at hf
  cases h1 : tf δ with
  | none => rw [h1] at hf; cases hf
  | some p =>
    obtain ⟨k1, δ1⟩ := p
    rw [h1] at hf
    cases k1 with
    | true => exact ⟨S, δ, true, δ1, R, h1, fun S1 H1 s1 R1 => ⟨S1, δ1, k, δ', R1, hf, fun S2 H2 s2 R2 => q S2 H2 (s1.trans s2) R2⟩⟩
    | false =>
      cases hf
      exact ⟨S, δ, false, _, R, h1, fun S1 H1 s1 R1 => q S1 H1 s1 R1⟩
theorem w_or (ha : PT X a (ST X.K F tf)) (hb : PW X (.BoolOp .Or (b :: rest) pos) (ST X.K F tg)) : PW X (.BoolOp .Or (a :: b :: rest) pos) (ST X.K F (fOrT tf tg)) := by
  refine pw_of fun S δ k δ' σ H Q R hf q => ⟨_, pw_or ha hb, ?_⟩
  unfold fOrT at hf
  cases h1 : tf δ with
  | none => rw [h1] at hf; cases hf
  | some p =>
    obtain ⟨k1, δ1⟩ := p
    rw [h1] at hf
    cases k1 with
    | true =>
      cases hf
      exact ⟨S, δ, true, _, R, h1, fun S1 H1 s1 R1 => q S1 H1 s1 R1⟩
    | false => exact ⟨S, δ, false, δ1, R, h1, fun S1 H1 s1 R1 => ⟨S1, δ1, k, δ', R1, hf, fun S2 H2 s2 R2 => q S2 H2 (s1.trans s2) R2⟩⟩
omit [TabSet] in
def fAndV (f g : M) : M := fun δ => match f δ with
  | some (.bool true, δ') => g δ'
  | some (.bool false, δ') => some (.bool false, δ')
  | _ => none
omit [TabSet] in
def fOrV (f g : M) : M := fun δ => match f δ with
  | some (.bool true, δ') => some (.bool true, δ')
  | some (.bool false, δ') => g δ'
  | _ => none
theorem e_one {op} (ha : PE X a (SE X.K F f)) : PE X (.BoolOp op [a] pos) (SE X.K F f) := pe_one ha
theorem e_and (ha : PE X a (SE X.K F f)) (hb : PE X (.BoolOp .And (b :: rest) pos) (SE X.K F g)) : PE X (.BoolOp .And (a :: b :: rest) pos) (SE X.K F (fAndV f g)) := by
  refine pe_of fun S δ d δ' σ H Q R hf q => ⟨_, pe_and ha hb, ?_⟩
  unfold fAndV at hf
  split at hf
  · rename_i δ1 h1
    exact ⟨S, δ, _, δ1, R, h1, fun v S1 H1 s1 R1 d1 => ⟨true, dq_bool d1, S1, δ1, d, δ', R1, hf, fun w S2 H2 s2 R2 d2 => q w S2 H2 (s1.trans s2) R2 d2⟩⟩
  · rename_i δ1 h1
    cases hf
    exact ⟨S, δ, _, _, R, h1, fun v S1 H1 s1 R1 d1 => ⟨false, dq_bool d1, q _ S1 H1 s1 R1 (.bl false)⟩⟩
  · cases hf
theorem e_or (ha : PE X a (SE X.K F f)) (hb : PE X (.BoolOp .Or (b :: rest) pos) (SE X.K F g)) : PE X (.BoolOp .Or (a :: b :: rest) pos) (SE X.K F (fOrV f g)) := by
  refine pe_of fun S δ d δ' σ H Q R hf q => ⟨_, pe_or ha hb, ?_⟩
  unfold fOrV at hf
  split at hf
  · rename_i δ1 h1
    cases hf
    exact ⟨S, δ, _, _, R, h1, fun v S1 H1 s1 R1 d1 => ⟨true, dq_bool d1, q _ S1 H1 s1 R1 (.bl true)⟩⟩
  · rename_i δ1 h1
    exact ⟨S, δ, _, δ1, R, h1, fun v S1 H1 s1 R1 d1 => ⟨false, dq_bool d1, S1, δ1, d, δ', R1, hf, fun w S2 H2 s2 R2 d2 => q w S2 H2 (s1.trans s2) R2 d2⟩⟩
  · cases hf
omit [TabSet] in
def fNotV (f : M) : M := fun δ => match f δ with
  | some (.bool b, δ') => some (.bool (!b), δ')
  | _ => none
theorem e_not (ha : PE X a (SE X.K F f)) : PE X (.UnaryOp .Not a pos) (SE X.K F (fNotV f)) := by
  refine pe_of fun S δ d δ' σ H Q R hf q => ⟨_, pe_not ha, ?_⟩
  unfold fNotV at hf
  split at hf
  · rename_i b δ1 h1
    cases hf
    exact ⟨S, δ, _, _, R, h1, fun v S1 H1 s1 R1 d1 => ⟨b, dq_bool d1, q _ S1 H1 s1 R1 (.bl _)⟩⟩
  · cases hf
omit [TabSet] in
def fIf (tf : MT) (f g : M) : M := fun δ => match tf δ with
  | some (true, δ') => f δ'
  | some (false, δ') => g δ'
  | none => none
theorem e_if (hc : PT X c (ST X.K F tf)) (ha : PE X a (SE X.K F f)) (hb : PE X b (SE X.K F g)) : PE X (.IfExp c a b pos) (SE X.K F (fIf tf f g)) := by
  refine pe_of fun S δ d δ' σ H Q R hf q => ⟨_, pe_ifExp hc ha hb, ?_⟩
  unfold fIf at hf
  cases h1 : tf δ with
  | none => rw [h1] at hf; cases hf
  | some p =>
    obtain ⟨k1, δ1⟩ := p
    rw [h1] at hf
    refine ⟨S, δ, k1, δ1, R, h1, fun S1 H1 s1 R1 => ?_⟩
    cases k1 with
    | true => exact ⟨S1, δ1, d, δ', R1, hf, fun v S2 H2 s2 R2 d2 => q v S2 H2 (s1.trans s2) R2 d2⟩
    | false => exact ⟨S1, δ1, d, δ', R1, hf, fun v S2 H2 s2 R2 d2 => q v S2 H2 (s1.trans s2) R2 d2⟩

/-! ### argument lists, displays -/
variable {es : List Expr} {fa ga : MA}
omit [TabSet] in
def aNil : MA := fun δ => some ([], δ)
omit [TabSet] in
def aCons (f : M) (fa : MA) : MA := fun δ => match f δ with
  | some (d, δ1) => match fa δ1 with
    | some (ds, δ2) => some (d :: ds, δ2)
    | none => none
  | none => none
theorem a_nil : PA X [] (SA X.K F aNil) := pa_of fun S δ ds δ' σ H Q R hf q => ⟨_, pa_nil, by
  cases hf
  exact q [] S H Stp.refl R .nil⟩
theorem a_cons (ha : PE X e (SE X.K F f)) (hr : PA X es (SA X.K F fa)) (hs : starEach (e :: es) X.env = (false, eval e X.env) :: starEach es X.env := by rfl) : PA X (e :: es) (SA X.K F (aCons f fa)) := by
  refine pa_of fun S δ ds δ' σ H Q R hf q => ⟨_, pa_cons ha hr hs, ?_⟩
  unfold aCons at hf
  cases h1 : f δ with
  | none => rw [h1] at hf; cases hf
  | some p =>
    obtain ⟨d, δ1⟩ := p
    rw [h1] at hf
    simp only at hf
    cases h2 : fa δ1 with
    | none => rw [h2] at hf; cases hf
    | some p =>
      obtain ⟨ds2, δ2⟩ := p
      rw [h2] at hf
      cases hf
      exact ⟨S, δ, d, δ1, R, h1, fun v S1 H1 s1 R1 d1 => ⟨S1, δ1, ds2, _, R1, h2, fun vs S2 H2 s2 R2 d2 => q (v :: vs) S2 H2 (s1.trans s2) R2 (.cons (dq_ext s2.s d1) d2)⟩⟩
omit [TabSet] in
def fTup (fa : MA) : M := fun δ => match fa δ with
  | some (ds, δ') => if ds.length ≤ 100000 then some (.tuple ds, δ') else none
  | none => none
theorem e_tup {x1} (ha : PA X es (SA X.K F fa)) : PE X (.Tuple es x1 pos) (SE X.K F (fTup fa)) := by
  refine pe_of fun S δ d δ' σ H Q R hf q => ⟨_, pe_tupF ha, ?_⟩
  unfold fTup at hf
  cases h1 : fa δ with
  | none => rw [h1] at hf; cases hf
  | some p =>
    obtain ⟨ds, δ1⟩ := p
    rw [h1] at hf
    simp only at hf
    split at hf
    · rename_i hc
      cases hf
      refine ⟨S, δ, ds, _, R, h1, fun vs S1 H1 s1 R1 d1 => ⟨sz_of (by rw [dqa_len d1]; exact hc), fun p its n hp => ?_⟩⟩
      obtain ⟨g1, g2⟩ := grow_tup R1.sub its n hp d1
      exact q _ _ _ (s1.trans (Stp.grow g1)) (R1.grow g1) g2
    · cases hf
/-- a new list is laid, nobody else holds it -/
theorem lay_fresh {K : PySem.W.Frag} {S H : Hp} {σ : L2.St} {δ : DE} (R : RSt K F S H σ δ) {p : Addr} {o : HO} (hp : H p = none) : RSt K F S (upd H p o) σ δ ∧ Stp S H S (upd H p o) σ δ δ ∧ S p = none := by
  have hS : S p = none := Evl.fresh_back R.sub hp
  obtain ⟨z1, z2⟩ := R.frz hp
  have ne : ∀ b u, H b = some u → b ≠ p := fun b u e => ne_of_none e hp
  have xn : Ex H (upd H p o) := Ex.new hp
  refine ⟨⟨fun b u e => ?_, fun b u e nt n => ?_, fun b u e => ?_, fun t => ⟨(R.tb0 t).1.ext xn, (R.tb0 t).2⟩, R.s0, R.out, fun b e => ?_, R.len, fun i x s h1 h2 => ?_, R.sep, R.pin⟩, ⟨Ex.refl S, fun _ _ _ => rfl, fun b u e _ _ => by rw [upd_ne (ne b u e)]; exact e, fun b u e => ⟨u, by rw [upd_ne (ne b u e)]; exact e⟩, fun _ xs h => ⟨xs, h⟩, fun t => ⟨t.1.ext xn, t.2⟩⟩, hS⟩
  · rw [upd_ne (ne b u (R.sub b u e))]; exact R.sub b u e
  · have q := R.base b u e nt n
    rw [upd_ne (ne b u q)]; exact q
  · obtain ⟨u', q⟩ := R.dom0 b u e
    exact ⟨u', by rw [upd_ne (ne b u' q)]; exact q⟩
  · obtain ⟨u, q⟩ := R.iop b e
    exact ⟨u, by rw [upd_ne (ne b u q)]; exact q⟩
  · have q := R.slot i x s h1 h2
    cases s with
    | no => trivial
    | sh d => exact q
    | scr ns => exact q
    | ow xs =>
      obtain ⟨a, vs, e, e1, e2, e3, e4⟩ := q
      exact ⟨a, vs, e, e1, e2, by rw [upd_ne (ne a _ e3)]; exact e3, e4⟩
/-- .. and given to all -/
theorem share_fresh {K : PySem.W.Frag} {S0 H0 S H : Hp} {σ : L2.St} {δ0 δ : DE} (R0 : RSt K F S0 H0 σ δ0) (s : Stp S0 H0 S H σ δ0 δ) (R : RSt K F S H σ δ) {p : Addr} {vs : List V} (h0 : H0 p = none) (hS : S p = none) (hp : H p = some (.lst vs)) :
    RSt K F (upd S p (.lst vs)) H σ δ ∧ Stp S0 H0 (upd S p (.lst vs)) H σ δ0 δ := by
  obtain ⟨z1, z2⟩ := R0.frz h0
  have hex : Ex S (upd S p (.lst vs)) := Ex.new hS
  have nown : ¬ Own σ δ p := fun o => by
    obtain ⟨us, q, _⟩ := R0.own_in (s.own o)
    rw [h0] at q; cases q
  refine ⟨⟨fun b u e => ?_, R.base, R.dom0, fun t => ⟨(R.tb0 t).1, nt_upd (R.tb0 t).2 nt_lst⟩, R.s0.trans hex, fun b u e => ?_, R.iop, R.len, fun i x t h1 h2 => ?_, R.sep, R.pin⟩, ⟨s.s.trans hex, fun b u e => ?_, s.keep, s.dom, s.kind, fun t => ⟨(s.tb t).1, nt_upd (s.tb t).2 nt_lst⟩⟩⟩
  · by_cases hb : b = p
    · subst hb; rw [upd_same] at e; cases e; exact hp
    · rw [upd_ne hb] at e; exact R.sub b u e
  · rw [upd_ne (fun z => by rw [z, z1] at e; cases e)]; exact R.out b u e
  · have q := R.slot i x t h1 h2
    cases t with
    | no => trivial
    | sh d =>
      obtain ⟨v, e, d1⟩ := q
      exact ⟨v, e, dq_ext hex d1⟩
    | scr ns =>
      obtain ⟨a, e, d1⟩ := q
      exact ⟨a, e, Evl.ex_l hex d1⟩
    | ow xs =>
      obtain ⟨a, us, e, e1, e2, e3, e4⟩ := q
      refine ⟨a, us, e, ?_, e2, e3, ob_ext hex e4⟩
      rw [upd_ne (fun z => nown ⟨i, xs, h2, by rw [h1, e, z]⟩)]
      exact e1
  · rw [upd_ne (fun z => by rw [z, h0] at e; cases e)]; exact s.out b u e
omit [TabSet] in
def fList (fa : MA) : M := fun δ => match fa δ with
  | some (ds, δ') => some (.list ds, δ')
  | none => none
/-- a new list, as a value -/
theorem se_f {ff : DE → Option (List D × DE)} (hp : PE X e (SF X.K F ff)) : PE X e (SE X.K F (fList ff)) := by
  refine pe_of fun S δ d δ' σ H Q R hf q => ⟨_, hp, ?_⟩
  unfold fList at hf
  cases h1 : ff δ with
  | none => rw [h1] at hf; cases hf
  | some p =>
    obtain ⟨ds, δ1⟩ := p
    rw [h1] at hf
    cases hf
    refine ⟨S, δ, ds, _, R, h1, fun a vs S1 H1 s1 R1 n1 n2 e1 d1 => ?_⟩
    obtain ⟨R2, s2⟩ := share_fresh R s1 R1 n1 n2 e1
    exact q _ _ _ s2 R2 (.lst upd_same (dqa_ext (Ex.new n2) d1))
omit [TabSet] in
def lLst (fa : MA) : MA := fun δ => match fa δ with
  | some (ds, δ') => if ds.length ≤ 100000 then some (ds, δ') else none
  | none => none
theorem f_lst (ha : PA X es (SA X.K F fa)) : PE X (.List es pos) (SF X.K F (lLst fa)) := by
  refine pf_of fun S δ d δ' σ H Q R hf q => ⟨_, pe_lst ha, ?_⟩
  unfold lLst at hf
  cases h1 : fa δ with
  | none => rw [h1] at hf; cases hf
  | some p =>
    obtain ⟨ds, δ1⟩ := p
    rw [h1] at hf
    simp only at hf
    split at hf
    · rename_i hc
      cases hf
      refine ⟨S, δ, _, _, R, h1, fun vs S1 H1 s1 R1 d1 => ⟨sz_of (by rw [dqa_len d1]; exact hc), fun p hp => ?_⟩⟩
      obtain ⟨R2, s2, n2⟩ := lay_fresh (o := .lst vs) R1 hp
      refine q p vs S1 _ (s1.trans s2) R2 ?_ n2 upd_same d1
      cases hh : H p with
      | none => rfl
      | some u =>
        obtain ⟨u', q'⟩ := s1.dom p u hh
        rw [hp] at q'; cases q'
    · cases hf
end
end Sd

/-! Places, slices, built-in functions. -/
namespace Sd
open PySem PySem.Spec PyProof.Rows L2
open Evl (Ex)
variable [TabSet]
omit [TabSet] in
theorem dict_nt {S : Hp} {o : HO} {kvs : List (D × D)} (h : DictAt S o kvs) : ∀ ps, o ≠ .tbl ps := ob_nt (ob := .dct kvs) h
omit [TabSet] in
/-- as Dq, the list or dict itself perhaps its holder's own -/
def Dsh (S H : Hp) (v : V) : D → Prop
  | .list ds => ∃ a vs, v = .ref a ∧ H a = some (.lst vs) ∧ DqAll S vs ds
  | .dict kvs => (∃ ds, kvs = wK ds) ∨ ∃ a o, v = .ref a ∧ H a = some o ∧ DictAt S o kvs
  | d => Dq S v d
theorem Dsh.of {S H : Hp} {v : V} {d : D} (ex : Ex S H) (h : Dq S v d) : Dsh S H v d := by
  cases h with
  | lst e a => exact ⟨_, _, rfl, ex _ _ e, a⟩
  | tup e a => exact .tup e a
  | non => exact .non
  | bl b => exact .bl b
  | int i => exact .int i
  | str x => exact .str x
  | dcK e a b => exact .inr ⟨_, _, rfl, ex _ _ e, .inl ⟨_, _, rfl, rfl, a, b⟩⟩
  | dcT e a b => exact .inr ⟨_, _, rfl, ex _ _ e, .inr ⟨_, _, rfl, rfl, a, b⟩⟩
  | wt e a => exact .inl ⟨_, rfl⟩
theorem Dsh.grow {S H S' H' : Hp} {v : V} {d : D} (g : Grow S H S' H') (h : Dsh S H v d) : Dsh S' H' v d := by
  cases d with
  | list ds =>
    obtain ⟨a, vs, e, e1, e2⟩ := h
    exact ⟨a, vs, e, g.h _ _ e1 nt_lst, dqa_ext g.s e2⟩
  | dict kvs =>
    rcases h with h | ⟨a, o, e, e1, e2⟩
    · exact .inl h
    exact .inr ⟨a, o, e, g.h _ _ e1 (dict_nt e2), dict_ext g.s e2⟩
  | _ => exact dq_ext g.s (show Dq S v _ from h)
def SX (K : PySem.W.Frag) (F : Fr) (f : M) : TE := fun σ H Q => ∃ S δ d δ', RSt K F S H σ δ ∧ f δ = some (d, δ') ∧
  ∀ v S' H', Stp S H S' H' σ δ δ' → RSt K F S' H' σ δ' → Dsh S' H' v d → Q v H'
/-- what changes nothing -/
abbrev PF := DE → Option D
def SP (K : PySem.W.Frag) (F : Fr) (f : PF) : TE := fun σ H Q => ∃ S δ d, RSt K F S H σ δ ∧ f δ = some d ∧ ∀ v S' H', Grow S H S' H' → Dq S' v d → Q v H'
section
variable {X : Cx} {F : Fr} {e a b c : Expr} {pos p : Pos} {f g h : M} {tf tg : MT} {pf pg : PF}
theorem px_of (h : ∀ S δ d δ' σ H Q, RSt X.K F S H σ δ → f δ = some (d, δ') → (∀ v S' H', Stp S H S' H' σ δ δ' → RSt X.K F S' H' σ δ' → Dsh S' H' v d → Q v H') → ∃ t, PE X e t ∧ t σ H Q) : PE X e (SX X.K F f) :=
  ⟨fun pins s σ H Q I hw => by
    obtain ⟨S, δ, d, δ', R, hf, q⟩ := hw
    obtain ⟨t, ht, hq⟩ := h S δ d δ' σ H Q R hf q
    exact ht.run pins s σ H Q I hq⟩
theorem pp_of (h : ∀ S δ d σ H Q, RSt X.K F S H σ δ → pf δ = some d → (∀ v S' H', Grow S H S' H' → Dq S' v d → Q v H') → ∃ t, PE X e t ∧ t σ H Q) : PE X e (SP X.K F pf) :=
  ⟨fun pins s σ H Q I hw => by
    obtain ⟨S, δ, d, R, hf, q⟩ := hw
    obtain ⟨t, ht, hq⟩ := h S δ d σ H Q R hf q
    exact ht.run pins s σ H Q I hq⟩
theorem x_of (ha : PE X e (SE X.K F f)) : PE X e (SX X.K F f) := px_of fun S δ d δ' σ H Q R hf q => ⟨_, ha, S, δ, d, δ', R, hf, fun v S1 H1 s1 R1 d1 => q v S1 H1 s1 R1 (Dsh.of R1.sub d1)⟩
theorem x_f {ff : MA} (hp : PE X e (SF X.K F ff)) : PE X e (SX X.K F (fList ff)) := by
  refine px_of fun S δ d δ' σ H Q R hf q => ⟨_, hp, ?_⟩
  unfold fList at hf
  cases h1 : ff δ with
  | none => rw [h1] at hf; cases hf
  | some p =>
    obtain ⟨ds, δ1⟩ := p
    rw [h1] at hf
    cases hf
    exact ⟨S, δ, ds, _, R, h1, fun a vs S1 H1 s1 R1 n1 n2 e1 d1 => q _ S1 H1 s1 R1 ⟨a, vs, rfl, e1, d1⟩⟩
omit [TabSet] in
def fPeek (i : Nat) : M := fun δ => match δ[i]? with
  | some (.ow (.lst xs)) => some (.list xs, δ)
  | some (.ow (.dct kvs)) => some (.dict kvs, δ)
  | some (.sh d) => some (d, δ)
  | _ => none
theorem x_peek {i : Nat} {x : Str} (hN : X.N[i]? = some x := by rfl) (hv : Vis X.env.scope x := by first | exact Or.inl rfl | exact Or.inr (Or.inl rfl) | exact Or.inr (Or.inr rfl)) (hd : (x == ("__debug__" : Str)) = false := by decide)
    (hcd : (x == ("__classdict__" : Str)) = false := by decide) : PE X (.Name x pos) (SX X.K F (fPeek i)) := by
  refine px_of fun S δ d δ' σ H Q R hf q => ⟨tVar i, pe_var hN hv hd hcd, ?_⟩
  unfold fPeek at hf
  cases hi : δ[i]? with
  | none => rw [hi] at hf; cases hf
  | some s =>
    have hl : i < σ.length := by rw [R.len]; exact (List.getElem?_eq_some_iff.mp hi).1
    have hs := R.slot i _ _ (List.getElem?_eq_getElem hl) hi
    rw [hi] at hf
    cases s with
    | sh d0 =>
      cases hf
      obtain ⟨v, ev, dv⟩ := hs
      exact ⟨v, by rw [List.getElem?_eq_getElem hl, ev], q v S H Stp.refl R (Dsh.of R.sub dv)⟩
    | ow ob =>
      obtain ⟨a, o, ev, e1, e2, e3, e4⟩ := hs
      cases ob with
      | lst xs =>
        cases hf
        obtain ⟨vs, rfl, e4⟩ := e4
        exact ⟨.ref a, by rw [List.getElem?_eq_getElem hl, ev], q _ S H Stp.refl R ⟨a, vs, rfl, e3, e4⟩⟩
      | dct kvs =>
        cases hf
        exact ⟨.ref a, by rw [List.getElem?_eq_getElem hl, ev], q _ S H Stp.refl R (.inr ⟨a, o, rfl, e3, e4⟩)⟩
    | _ => cases hf
theorem p_of_m (hm : ∀ δ, f δ = (pf δ).map fun d => (d, δ)) (ha : PE X e (SP X.K F pf)) : PE X e (SE X.K F f) := by
  refine pe_of fun S δ d δ' σ H Q R hf q => ⟨_, ha, ?_⟩
  rw [hm] at hf
  cases h1 : pf δ with
  | none => rw [h1] at hf; cases hf
  | some z =>
    rw [h1] at hf
    cases hf
    exact ⟨S, _, _, R, h1, fun v S1 H1 g1 d1 => q v S1 H1 (Stp.grow g1) (R.grow g1) d1⟩
omit [TabSet] in
def pVar (i : Nat) : PF := fun δ => match δ[i]? with
  | some (.sh d) => some d
  | _ => none
omit [TabSet] in
def pC (d : D) : PF := fun _ => some d
omit [TabSet] in
def pOp (op : D → D → Option D) (pf pg : PF) : PF := fun δ => match pf δ with
  | some x => match pg δ with
    | some y => op x y
    | none => none
  | none => none
theorem p_var {i : Nat} {x : Str} (hN : X.N[i]? = some x := by rfl) (hv : Vis X.env.scope x := by first | exact Or.inl rfl | exact Or.inr (Or.inl rfl) | exact Or.inr (Or.inr rfl)) (hd : (x == ("__debug__" : Str)) = false := by decide)
    (hcd : (x == ("__classdict__" : Str)) = false := by decide) : PE X (.Name x pos) (SP X.K F (pVar i)) := by
  refine pp_of fun S δ d σ H Q R hf q => ⟨tVar i, pe_var hN hv hd hcd, ?_⟩
  unfold pVar at hf
  cases hi : δ[i]? with
  | none => rw [hi] at hf; cases hf
  | some s =>
    rw [hi] at hf
    cases s with
    | sh d0 =>
      cases hf
      have hl : i < σ.length := by rw [R.len]; exact (List.getElem?_eq_some_iff.mp hi).1
      obtain ⟨v, ev, dv⟩ := R.slot i _ _ (List.getElem?_eq_getElem hl) hi
      exact ⟨v, by rw [List.getElem?_eq_getElem hl, ev], q v S H (Grow.refl R.sub) dv⟩
    | _ => cases hf
theorem p_int {i j} : PE X (.Constant (.int i) j pos) (SP X.K F (pC (.int i))) := pp_of fun S δ d σ H Q R hf q => ⟨_, pe_int, by
  cases hf
  exact q _ S H (Grow.refl R.sub) (.int i)⟩
theorem p_add (ha : PE X a (SP X.K F pf)) (hb : PE X b (SP X.K F pg)) : PE X (.BinOp a .Add b pos) (SP X.K F (pOp (fun x y => match x, y with | .int i, .int j => some (.int (i + j)) | _, _ => none) pf pg)) := by
  refine pp_of fun S δ d σ H Q R hf q => ⟨_, pe_op op_add ha hb, ?_⟩
  unfold pOp at hf
  cases h1 : pf δ with
  | none => rw [h1] at hf; cases hf
  | some x =>
    rw [h1] at hf
    cases h2 : pg δ with
    | none => rw [h2] at hf; cases hf
    | some y =>
      rw [h2] at hf
      simp only at hf
      split at hf
      · cases hf
        exact ⟨S, δ, _, R, h1, fun v S1 H1 g1 d1 => ⟨S1, δ, _, R.grow g1, h2, fun w S2 H2 g2 d2 => ⟨_, _, dq_int d1, dq_int d2, q _ S2 H2 (g1.trans g2) (.int _)⟩⟩⟩
      · cases hf
theorem p_sub (ha : PE X a (SP X.K F pf)) (hb : PE X b (SP X.K F pg)) : PE X (.BinOp a .Sub b pos) (SP X.K F (pOp opSub pf pg)) := by
  refine pp_of fun S δ d σ H Q R hf q => ⟨_, pe_op op_sub ha hb, ?_⟩
  unfold pOp at hf
  cases h1 : pf δ with
  | none => rw [h1] at hf; cases hf
  | some x =>
    rw [h1] at hf
    cases h2 : pg δ with
    | none => rw [h2] at hf; cases hf
    | some y =>
      rw [h2] at hf
      cases x <;> cases y <;> simp only [opSub] at hf <;> cases hf
      exact ⟨S, δ, _, R, h1, fun v S1 H1 g1 d1 => ⟨S1, δ, _, R.grow g1, h2, fun w S2 H2 g2 d2 => ⟨_, _, dq_int d1, dq_int d2, q _ S2 H2 (g1.trans g2) (.int _)⟩⟩⟩
omit [TabSet] in
def pNeg (pf : PF) : PF := fun δ => match pf δ with
  | some (.int i) => some (.int (-i))
  | _ => none
theorem p_neg (ha : PE X a (SP X.K F pf)) : PE X (.UnaryOp .USub a pos) (SP X.K F (pNeg pf)) := by
  refine pp_of fun S δ d σ H Q R hf q => ⟨_, pe_un un_neg ha, ?_⟩
  unfold pNeg at hf
  split at hf
  · rename_i i h1
    cases hf
    exact ⟨S, δ, _, R, h1, fun v S1 H1 g1 d1 => ⟨i, dq_int d1, q _ S1 H1 g1 (.int _)⟩⟩
  · cases hf

/-! ### places -/
omit [TabSet] in
def ixD : D → D → Option D
  | .list ds, .int i => atI ds i
  | .tuple ds, .int i => atI ds i
  | .str z, .int i => if z.length ≤ 100000 then (atI z.cps.toList i).map fun c => .str ⟨#[c]⟩ else none
  | _, _ => none
theorem dqa_atI {S : Hp} {vs : List V} {ds : List D} {i : Int} {d : D} (h : DqAll S vs ds) (e : atI ds i = some d) : ∃ v, atI vs i = some v ∧ Dq S v d := by
  unfold atI at e ⊢
  rw [dqa_len h]
  cases hj : ixN ds.length i with
  | none => rw [hj] at e; cases e
  | some j =>
    rw [hj] at e
    exact dqa_get' h e
theorem e_ix (ha : PE X a (SE X.K F f)) (hb : PE X b (SE X.K F g)) (hs : PlainIx b := by exact fun _ _ => rfl) : PE X (.Subscript a b pos) (SE X.K F (fOp ixD f g)) := by
  refine se_op fun d e' z hz => ?_
  cases d <;> cases e' <;> simp only [ixD] at hz <;> first | cases hz | skip
  · split at hz
    · rename_i hc
      cases hi : atI _ _ with
      | none => rw [hi] at hz; cases hz
      | some c =>
        rw [hi] at hz
        cases hz
        exact ⟨_, pe_ix ix_str ha hb hs, fun S H x y Q ex h1 h2 q => ⟨_, _, c, dq_str h1, dq_int h2, sz_of hc, hi, q _ S H (Grow.refl ex) (.str _)⟩⟩
    · cases hz
  · refine ⟨_, pe_ix ix_list ha hb hs, fun S H x y Q ex h1 h2 q => ?_⟩
    obtain ⟨p1, v1, rfl, e1, d1⟩ := dq_list h1
    obtain ⟨v, hv, dv⟩ := dqa_atI d1 hz
    exact ⟨p1, v1, _, v, rfl, dq_int h2, SqL.of (ex _ _ e1), hv, q v S H (Grow.refl ex) dv⟩
  · refine ⟨_, pe_ix ix_tup ha hb hs, fun S H x y Q ex h1 h2 q => ?_⟩
    obtain ⟨p1, v1, rfl, e1, d1⟩ := dq_tup h1
    obtain ⟨v, hv, dv⟩ := dqa_atI d1 hz
    exact ⟨p1, v1, _, v, rfl, dq_int h2, Tp.sq (Tp.ext ex e1), hv, q v S H (Grow.refl ex) dv⟩
omit [TabSet] in
/-- a place of what is perhaps one's own -/
def fIxX (f : M) (pg : PF) : M := fun δ => match f δ with
  | some (d, δ1) => match pg δ1 with
    | some y => (ixD d y).map fun z => (z, δ1)
    | none => none
  | none => none
theorem e_ixX (ha : PE X a (SX X.K F f)) (hb : PE X b (SP X.K F pg)) (hs : PlainIx b := by exact fun _ _ => rfl) : PE X (.Subscript a b pos) (SE X.K F (fIxX f pg)) := by
  refine pe_of fun S δ d δ' σ H Q R hf q => ?_
  unfold fIxX at hf
  cases h1 : f δ with
  | none => rw [h1] at hf; cases hf
  | some p =>
    obtain ⟨x, δ1⟩ := p
    rw [h1] at hf
    simp only at hf
    cases h2 : pg δ1 with
    | none => rw [h2] at hf; cases hf
    | some y =>
      rw [h2] at hf
      simp only at hf
      cases h3 : ixD x y with
      | none => rw [h3] at hf; cases hf
      | some z =>
        rw [h3] at hf
        cases hf
        cases x <;> cases y <;> simp only [ixD] at h3 <;> first | cases h3 | skip
        · split at h3
          · rename_i hc
            cases hi : atI _ _ with
            | none => rw [hi] at h3; cases h3
            | some c =>
              rw [hi] at h3
              cases h3
              exact ⟨_, pe_ix ix_str ha hb hs, S, δ, _, _, R, h1, fun v S1 H1 s1 R1 d1 => ⟨S1, _, _, R1, h2, fun w S2 H2 g2 d2 =>
                ⟨_, _, c, dq_str d1, dq_int d2, sz_of hc, hi, q _ S2 H2 (s1.trans (Stp.grow g2)) (R1.grow g2) (.str _)⟩⟩⟩
          · cases h3
        · refine ⟨_, pe_ix ix_list ha hb hs, S, δ, _, _, R, h1, fun v S1 H1 s1 R1 d1 => ⟨S1, _, _, R1, h2, fun w S2 H2 g2 d2 => ?_⟩⟩
          obtain ⟨p1, v1, rfl, e1, d1⟩ := d1
          obtain ⟨v, hv, dv⟩ := dqa_atI (dqa_ext g2.s d1) h3
          exact ⟨p1, v1, _, v, rfl, dq_int d2, SqL.of (g2.h _ _ e1 nt_lst), hv, q v S2 H2 (s1.trans (Stp.grow g2)) (R1.grow g2) dv⟩
        · refine ⟨_, pe_ix ix_tup ha hb hs, S, δ, _, _, R, h1, fun v S1 H1 s1 R1 d1 => ⟨S1, _, _, R1, h2, fun w S2 H2 g2 d2 => ?_⟩⟩
          obtain ⟨p1, v1, rfl, e1, d1⟩ := dq_tup d1
          obtain ⟨v, hv, dv⟩ := dqa_atI (dqa_ext g2.s d1) h3
          exact ⟨p1, v1, _, v, rfl, dq_int d2, Tp.sq (Tp.ext (R1.grow g2).sub (Tp.ext g2.s e1)), hv, q v S2 H2 (s1.trans (Stp.grow g2)) (R1.grow g2) dv⟩

/-! ### slices -/
omit [TabSet] in
def cutD (ds : List D) (lo hi : Option Int) : List D := (ds.drop (HT.sIx ds.length 0 lo)).take (HT.sIx ds.length ds.length hi - HT.sIx ds.length 0 lo)
theorem dqa_cut {S : Hp} {vs : List V} {ds : List D} (h : DqAll S vs ds) (lo hi : Option Int) : DqAll S (cutV vs lo hi) (cutD ds lo hi) := by
  unfold cutV cutD
  rw [dqa_len h]
  exact dqa_take _ (dqa_drop _ h)
abbrev PO' := DE → Option (Option Int)
def SO (K : PySem.W.Frag) (F : Fr) (f : PO') : TO := fun σ H Q => ∃ S δ d, RSt K F S H σ δ ∧ f δ = some d ∧ ∀ S' H', Grow S H S' H' → Q d H'
omit [TabSet] in
def oNo : PO' := fun _ => some none
omit [TabSet] in
def oInt (pf : PF) : PO' := fun δ => match pf δ with
  | some (.int i) => some (some i)
  | _ => none
theorem po_of' {eo : Option Expr} {t t' : TO} (h : PO X eo t) (w : ∀ σ H Q, t' σ H Q → t σ H Q) : PO X eo t' := ⟨fun pins s σ H Q I hw => h.run pins s σ H Q I (w σ H Q hw)⟩
theorem o_no : PO X none (SO X.K F oNo) := po_of' po_none fun σ H Q hw => by
  obtain ⟨S, δ, d, R, hf, q⟩ := hw
  cases hf
  exact q S H (Grow.refl R.sub)
theorem o_int (ha : PE X e (SP X.K F pf)) : PO X (some e) (SO X.K F (oInt pf)) := po_of' (po_some ha) fun σ H Q hw => by
  obtain ⟨S, δ, d, R, hf, q⟩ := hw
  unfold oInt at hf
  split at hf
  · rename_i i h1
    cases hf
    exact ⟨S, δ, _, R, h1, fun v S1 H1 g1 d1 => ⟨i, dq_int d1, q S1 H1 g1⟩⟩
  · cases hf
omit [TabSet] in
def lSl (f : M) (pl ph : PO') : MA := fun δ => match f δ with
  | some (.list ds, δ1) => match pl δ1, ph δ1 with
    | some lo, some hi => some (cutD ds lo hi, δ1)
    | _, _ => none
  | _ => none
variable {lo hi : Option Expr} {pl ph : PO'} {p2 : Pos}
/-- xs[lo:hi], a list -/
theorem f_sl (ha : PE X a (SX X.K F f)) (hl : PO X lo (SO X.K F pl)) (hh : PO X hi (SO X.K F ph)) : PE X (.Subscript a (.Slice lo hi none p2) pos) (SF X.K F (lSl f pl ph)) := by
  refine pf_of fun S δ d δ' σ H Q R hf q => ⟨_, pe_slice sl_list ha hl hh, ?_⟩
  unfold lSl at hf
  split at hf
  · rename_i ds δ1 h1
    split at hf
    · rename_i l u h2 h3
      cases hf
      refine ⟨S, δ, _, _, R, h1, fun v S1 H1 s1 R1 d1 => ⟨S1, _, _, R1, h2, fun S2 H2 g2 => ⟨S2, _, _, R1.grow g2, h3, fun S3 H3 g3 => ?_⟩⟩⟩
      obtain ⟨p1, v1, rfl, e1, d1⟩ := d1
      have g := g2.trans g3
      have R3 := R1.grow g
      refine ⟨p1, v1, rfl, SqL.of (g.h _ _ e1 nt_lst), fun p hp => ?_⟩
      obtain ⟨R4, s4, n4⟩ := lay_fresh (o := .lst (cutV v1 l u)) R3 hp
      have s3 := (s1.trans (Stp.grow g)).trans s4
      refine q p _ S3 _ s3 R4 ?_ n4 upd_same (dqa_cut (dqa_ext g.s d1) l u)
      cases hz : H p with
      | none => rfl
      | some o =>
        obtain ⟨o', q'⟩ := (s1.trans (Stp.grow g)).dom p o hz
        rw [hp] at q'; cases q'
    · cases hf
  · cases hf
omit [TabSet] in
def fSlT (f : M) (pl ph : PO') : M := fun δ => match f δ with
  | some (.tuple ds, δ1) => match pl δ1, ph δ1 with
    | some lo, some hi => some (.tuple (cutD ds lo hi), δ1)
    | _, _ => none
  | _ => none
theorem cut_whole {α : Type} (ds : List α) {l u : Nat} (h : l = 0 ∧ u = ds.length) : (ds.drop l).take (u - l) = ds := by
  obtain ⟨rfl, rfl⟩ := h
  rw [List.drop_zero, Nat.sub_zero, List.take_length]
/-- t[lo:hi], a tuple -/
theorem e_slT (ha : PE X a (SE X.K F f)) (hl : PO X lo (SO X.K F pl)) (hh : PO X hi (SO X.K F ph)) : PE X (.Subscript a (.Slice lo hi none p2) pos) (SE X.K F (fSlT f pl ph)) := by
  refine pe_of fun S δ d δ' σ H Q R hf q => ⟨_, pe_slice sl_F ha hl hh, ?_⟩
  unfold fSlT at hf
  split at hf
  · rename_i ds δ1 h1
    split at hf
    · rename_i l u h2 h3
      cases hf
      refine ⟨S, δ, _, _, R, h1, fun v S1 H1 s1 R1 d1 => ⟨S1, _, _, R1, h2, fun S2 H2 g2 => ⟨S2, _, _, R1.grow g2, h3, fun S3 H3 g3 => ?_⟩⟩⟩
      obtain ⟨p1, v1, rfl, e1, d1⟩ := dq_tup d1
      have g := g2.trans g3
      have R3 := R1.grow g
      have e3 := Tp.ext g.s e1
      have d3 := dqa_ext g.s d1
      refine ⟨p1, v1, rfl, Tp.sq (Tp.ext R3.sub e3), fun hw => ?_, fun _ p its n hp => ?_⟩
      · have hc : cutD ds l u = ds := cut_whole ds (by rw [← dqa_len d1]; exact hw)
        rw [hc] at q
        exact q _ S3 H3 (s1.trans (Stp.grow g)) R3 (.tup e3 d3)
      · obtain ⟨g4, g5⟩ := grow_tup R3.sub its n hp (dqa_cut d3 l u)
        exact q _ _ _ ((s1.trans (Stp.grow g)).trans (Stp.grow g4)) (R3.grow g4) g5
    · cases hf
  · cases hf

/-! ### built-in functions of one thing -/
omit [TabSet] in
def f1 (u : D → Option D) (f : M) : M := fun δ => match f δ with
  | some (d, δ') => (u d).map fun z => (z, δ')
  | none => none
variable {x : Str}
theorem f1_of {u : D → Option D} {δ δ' : DE} {z : D} (h : f1 u f δ = some (z, δ')) : ∃ d, f δ = some (d, δ') ∧ u d = some z := by
  unfold f1 at h
  cases h1 : f δ with
  | none => rw [h1] at h; cases h
  | some p =>
    obtain ⟨d, δ1⟩ := p
    rw [h1] at h
    simp only at h
    cases h2 : u d with
    | none => rw [h2] at h; cases h
    | some z' =>
      rw [h2] at h
      cases h
      exact ⟨d, rfl, h2⟩
theorem e_c1 {u : D → Option D} {bi : Value} (hp : ∀ r, CallR X bi r → PE X e (tCB r (tCons (SX X.K F f) tNil)))
    (h : ∀ d z, u d = some z → ∃ r, CallR X bi r ∧ ∀ S H v Q, Ex S H → Dsh S H v d → (∀ w S' H', Grow S H S' H' → Dq S' w z → Q w H') → r [v] H Q) : PE X e (SE X.K F (f1 u f)) := by
  refine pe_of fun S δ d δ' σ H Q R hf q => ?_
  obtain ⟨d0, h1, h2⟩ := f1_of hf
  obtain ⟨r, k1, k2⟩ := h d0 d h2
  exact ⟨_, hp r k1, S, δ, d0, δ', R, h1, fun v S1 H1 s1 R1 d1 => k2 S1 H1 v Q R1.sub d1 fun w S2 H2 g2 d2 => q w S2 H2 (s1.trans (Stp.grow g2)) (R1.grow g2) d2⟩
omit [TabSet] in
def uLen : D → Option D
  | .list ds => some (.int ds.length)
  | .tuple ds => some (.int ds.length)
  | .str z => if z.length ≤ 100000 then some (.int z.length) else none
  | _ => none
theorem e_len {pp : Pos} (hg : Gl X "len" := by rfl) (hm : X.mg "len" = none) (ha : PE X a (SX X.K F f)) (he : starEach (a :: []) X.env = (false, eval a X.env) :: starEach [] X.env := by rfl) (hpl : (backTo pos (starEach [] X.env)).any (·.1) = false := by rfl) :
    PE X (.Call (.Name "len" pp) [a] [] pos) (SE X.K F (f1 uLen f)) := by
  refine e_c1 (bi := .builtin "len") (fun r hr => pe_callB hr hg hm PySem.boot_len (pa_cons ha pa_nil he) (he := he) (hpl := hpl)) fun d z hz => ?_
  cases d <;> simp only [uLen] at hz <;> first | cases hz | skip
  · split at hz
    · rename_i hc
      cases hz
      refine ⟨_, call_len_str, fun S H v Q ex d1 q => ⟨_, ?_, sz_of hc, q _ S H (Grow.refl ex) (.int _)⟩⟩
      rw [dq_str d1]
    · cases hz
  · refine ⟨_, call_len_seq, fun S H v Q ex d1 q => ?_⟩
    obtain ⟨p1, v1, rfl, e1, d1⟩ := d1
    refine ⟨p1, v1, rfl, .inl (SqL.of e1), ?_⟩
    rw [dqa_len d1]
    exact q _ S H (Grow.refl ex) (.int _)
  · refine ⟨_, call_len_seq, fun S H v Q ex d1 q => ?_⟩
    obtain ⟨p1, v1, rfl, e1, d1⟩ := dq_tup d1
    refine ⟨p1, v1, rfl, .inr (Tp.sq (Tp.ext ex e1)), ?_⟩
    rw [dqa_len d1]
    exact q _ S H (Grow.refl ex) (.int _)
omit [TabSet] in
def uTup : D → Option D
  | .list ds => some (.tuple ds)
  | .tuple ds => some (.tuple ds)
  | _ => none
theorem e_tupOf {pp : Pos} (hg : Gl X "tuple" := by rfl) (hm : X.mg "tuple" = none) (ha : PE X a (SX X.K F f)) (he : starEach (a :: []) X.env = (false, eval a X.env) :: starEach [] X.env := by rfl) (hpl : (backTo pos (starEach [] X.env)).any (·.1) = false := by rfl) :
    PE X (.Call (.Name "tuple" pp) [a] [] pos) (SE X.K F (f1 uTup f)) := by
  refine e_c1 (bi := .type "tuple") (fun r hr => pe_callTy hr hg hm boot_tuple (pa_cons ha pa_nil he) (he := he) (hpl := hpl)) fun d z hz => ?_
  cases d <;> simp only [uTup] at hz <;> cases hz
  · refine ⟨_, call_tupF, fun S H v Q ex d1 q => ?_⟩
    obtain ⟨p1, v1, rfl, e1, d1⟩ := d1
    refine ⟨p1, v1, rfl, .inl ⟨SqL.of e1, fun l its n hl => ?_⟩⟩
    obtain ⟨g1, g2⟩ := grow_tup ex its n hl d1
    exact q _ _ _ g1 g2
  · refine ⟨_, call_tupF, fun S H v Q ex d1 q => ?_⟩
    obtain ⟨p1, v1, rfl, e1, d1⟩ := dq_tup d1
    exact ⟨p1, v1, rfl, .inr ⟨Tp.sq (Tp.ext ex e1), q _ S H (Grow.refl ex) (.tup e1 d1)⟩⟩
omit [TabSet] in
/-- a new list by a call -/
def l1 (u : D → Option (List D)) (f : M) : MA := fun δ => match f δ with
  | some (d, δ') => (u d).map fun z => (z, δ')
  | none => none
theorem f_c1 {u : D → Option (List D)} {bi : Value} (hp : ∀ r, CallR X bi r → PE X e (tCB r (tCons (SX X.K F f) tNil)))
    (h : ∀ d zs, u d = some zs → ∃ r, CallR X bi r ∧ ∀ S H v Q, Ex S H → Dsh S H v d → (∀ p vs, H p = none → DqAll S vs zs → Q (.ref p) (upd H p (.lst vs))) → r [v] H Q) : PE X e (SF X.K F (l1 u f)) := by
  refine pf_of fun S δ d δ' σ H Q R hf q => ?_
  unfold l1 at hf
  cases h1 : f δ with
  | none => rw [h1] at hf; cases hf
  | some p =>
    obtain ⟨d0, δ1⟩ := p
    rw [h1] at hf
    simp only at hf
    cases h2 : u d0 with
    | none => rw [h2] at hf; cases hf
    | some zs =>
      rw [h2] at hf
      cases hf
      obtain ⟨r, k1, k2⟩ := h d0 _ h2
      refine ⟨_, hp r k1, S, δ, d0, _, R, h1, fun v S1 H1 s1 R1 d1 => k2 S1 H1 v Q R1.sub d1 fun p vs hp dv => ?_⟩
      obtain ⟨R2, s2, n2⟩ := lay_fresh (o := .lst vs) R1 hp
      refine q p vs S1 _ (s1.trans s2) R2 ?_ n2 upd_same dv
      cases hz : H p with
      | none => rfl
      | some o =>
        obtain ⟨o', q'⟩ := s1.dom p o hz
        rw [hp] at q'; cases q'
omit [TabSet] in
def uList : D → Option (List D)
  | .list ds => some ds
  | .tuple ds => some ds
  | _ => none
theorem f_listOf {pp : Pos} (hg : Gl X "list" := by rfl) (hm : X.mg "list" = none) (ha : PE X a (SX X.K F f)) (he : starEach (a :: []) X.env = (false, eval a X.env) :: starEach [] X.env := by rfl) (hpl : (backTo pos (starEach [] X.env)).any (·.1) = false := by rfl) :
    PE X (.Call (.Name "list" pp) [a] [] pos) (SF X.K F (l1 uList f)) := by
  refine f_c1 (bi := .type "list") (fun r hr => pe_callTy hr hg hm boot_list (pa_cons ha pa_nil he) (he := he) (hpl := hpl)) fun d z hz => ?_
  cases d <;> simp only [uList] at hz <;> cases hz
  · refine ⟨_, call_list_of, fun S H v Q ex d1 q => ?_⟩
    obtain ⟨p1, v1, rfl, e1, d1⟩ := d1
    exact ⟨p1, v1, rfl, .inl (SqL.of e1), fun l hl => q l v1 hl d1⟩
  · refine ⟨_, call_list_of, fun S H v Q ex d1 q => ?_⟩
    obtain ⟨p1, v1, rfl, e1, d1⟩ := dq_tup d1
    exact ⟨p1, v1, rfl, .inr (Tp.sq (Tp.ext ex e1)), fun l hl => q l v1 hl d1⟩
omit [TabSet] in
/-- lists of boolsD, of intsD -/
def boolsD : List D → Option (List Bool)
  | [] => some []
  | .bool b :: r => (boolsD r).map (b :: ·)
  | _ :: _ => none
omit [TabSet] in
def intsD : List D → Option (List Int)
  | [] => some []
  | .int b :: r => (intsD r).map (b :: ·)
  | _ :: _ => none
theorem dqa_bools {S : Hp} : ∀ {vs : List V} {ds : List D} {bs : List Bool}, DqAll S vs ds → boolsD ds = some bs → vs = bs.map V.bl
  | _, _, _, .nil, e => by cases e; rfl
  | v :: vs, d :: ds, bs, .cons h t, e => by
    cases d <;> simp only [boolsD] at e <;> first | cases e | skip
    cases h2 : boolsD ds with
    | none => rw [h2] at e; cases e
    | some r =>
      rw [h2] at e
      cases e
      rw [dq_bool h, dqa_bools t h2]
      rfl
theorem dqa_ints {S : Hp} : ∀ {vs : List V} {ds : List D} {bs : List Int}, DqAll S vs ds → intsD ds = some bs → vs = bs.map V.int
  | _, _, _, .nil, e => by cases e; rfl
  | v :: vs, d :: ds, bs, .cons h t, e => by
    cases d <;> simp only [intsD] at e <;> first | cases e | skip
    cases h2 : intsD ds with
    | none => rw [h2] at e; cases e
    | some r =>
      rw [h2] at e
      cases e
      rw [dq_int h, dqa_ints t h2]
      rfl
theorem dqa_of_ints (S : Hp) : ∀ ns : List Int, DqAll S (ns.map V.int) (ns.map PyData.int)
  | [] => .nil
  | n :: r => .cons (.int n) (dqa_of_ints S r)
omit [TabSet] in
def uAll : D → Option D
  | .list ds => (boolsD ds).map fun bs => .bool (bs.all fun k => k)
  | _ => none
omit [TabSet] in
def uAny : D → Option D
  | .list ds => (boolsD ds).map fun bs => .bool (bs.any fun k => k)
  | _ => none
omit [TabSet] in
def uSum : D → Option D
  | .list ds => (intsD ds).map fun bs => .int bs.sum
  | _ => none
variable (hc : X.calm = true)
include hc
theorem e_all {pp : Pos} (hg : Gl X "all" := by rfl) (hm : X.mg "all" = none) (ha : PE X a (SX X.K F f)) (he : starEach (a :: []) X.env = (false, eval a X.env) :: starEach [] X.env := by rfl) (hpl : (backTo pos (starEach [] X.env)).any (·.1) = false := by rfl) :
    PE X (.Call (.Name "all" pp) [a] [] pos) (SE X.K F (f1 uAll f)) := by
  refine e_c1 (bi := .builtin "all") (fun r hr => pe_callB hr hg hm (by decide +kernel) (pa_cons ha pa_nil he) (he := he) (hpl := hpl)) fun d z hz => ?_
  cases d <;> simp only [uAll] at hz <;> first | cases hz | skip
  rename_i ds
  cases hb : boolsD ds with
  | none => rw [hb] at hz; cases hz
  | some bs =>
    rw [hb] at hz
    cases hz
    refine ⟨_, cr_all hc, fun S H v Q ex d1 q => ?_⟩
    obtain ⟨p1, v1, rfl, e1, d1⟩ := d1
    exact ⟨p1, bs, rfl, by rw [← dqa_bools d1 hb]; exact SqL.of e1, q _ S H (Grow.refl ex) (.bl _)⟩
theorem e_any {pp : Pos} (hg : Gl X "any" := by rfl) (hm : X.mg "any" = none) (ha : PE X a (SX X.K F f)) (he : starEach (a :: []) X.env = (false, eval a X.env) :: starEach [] X.env := by rfl) (hpl : (backTo pos (starEach [] X.env)).any (·.1) = false := by rfl) :
    PE X (.Call (.Name "any" pp) [a] [] pos) (SE X.K F (f1 uAny f)) := by
  refine e_c1 (bi := .builtin "any") (fun r hr => pe_callB hr hg hm (by decide +kernel) (pa_cons ha pa_nil he) (he := he) (hpl := hpl)) fun d z hz => ?_
  cases d <;> simp only [uAny] at hz <;> first | cases hz | skip
  rename_i ds
  cases hb : boolsD ds with
  | none => rw [hb] at hz; cases hz
  | some bs =>
    rw [hb] at hz
    cases hz
    refine ⟨_, cr_any hc, fun S H v Q ex d1 q => ?_⟩
    obtain ⟨p1, v1, rfl, e1, d1⟩ := d1
    exact ⟨p1, bs, rfl, by rw [← dqa_bools d1 hb]; exact SqL.of e1, q _ S H (Grow.refl ex) (.bl _)⟩
theorem e_sum {pp : Pos} (hg : Gl X "sum" := by rfl) (hm : X.mg "sum" = none) (ha : PE X a (SX X.K F f)) (he : starEach (a :: []) X.env = (false, eval a X.env) :: starEach [] X.env := by rfl) (hpl : (backTo pos (starEach [] X.env)).any (·.1) = false := by rfl) :
    PE X (.Call (.Name "sum" pp) [a] [] pos) (SE X.K F (f1 uSum f)) := by
  refine e_c1 (bi := .builtin "sum") (fun r hr => pe_callB hr hg hm (by decide +kernel) (pa_cons ha pa_nil he) (he := he) (hpl := hpl)) fun d z hz => ?_
  cases d <;> simp only [uSum] at hz <;> first | cases hz | skip
  rename_i ds
  cases hb : intsD ds with
  | none => rw [hb] at hz; cases hz
  | some bs =>
    rw [hb] at hz
    cases hz
    refine ⟨_, cr_sum hc, fun S H v Q ex d1 q => ?_⟩
    obtain ⟨p1, v1, rfl, e1, d1⟩ := d1
    exact ⟨p1, bs, rfl, by rw [← dqa_ints d1 hb]; exact SqL.of e1, q _ S H (Grow.refl ex) (.int _)⟩
omit hc
omit [TabSet] in
def uAbs : D → Option D
  | .int i => some (.int (if i < 0 then -i else i))
  | _ => none
theorem e_abs {pp : Pos} (hg : Gl X "abs" := by rfl) (hm : X.mg "abs" = none) (ha : PE X a (SX X.K F f)) (he : starEach (a :: []) X.env = (false, eval a X.env) :: starEach [] X.env := by rfl) (hpl : (backTo pos (starEach [] X.env)).any (·.1) = false := by rfl) :
    PE X (.Call (.Name "abs" pp) [a] [] pos) (SE X.K F (f1 uAbs f)) := by
  refine e_c1 (bi := .builtin "abs") (fun r hr => pe_callB hr hg hm (by decide +kernel) (pa_cons ha pa_nil he) (he := he) (hpl := hpl)) fun d z hz => ?_
  cases d <;> simp only [uAbs] at hz <;> cases hz
  exact ⟨_, call_abs, fun S H v Q ex d1 q => ⟨_, by rw [dq_int d1], q _ S H (Grow.refl ex) (.int _)⟩⟩
omit [TabSet] in
def uInt : D → Option D
  | .int i => some (.int i)
  | .bool b => some (.int (if b then 1 else 0))
  | _ => none
theorem e_intOf {pp : Pos} (hg : Gl X "int" := by rfl) (hm : X.mg "int" = none) (ha : PE X a (SX X.K F f)) (he : starEach (a :: []) X.env = (false, eval a X.env) :: starEach [] X.env := by rfl) (hpl : (backTo pos (starEach [] X.env)).any (·.1) = false := by rfl) :
    PE X (.Call (.Name "int" pp) [a] [] pos) (SE X.K F (f1 uInt f)) := by
  refine e_c1 (bi := .type "int") (fun r hr => pe_callTy hr hg hm (by decide +kernel) (pa_cons ha pa_nil he) (he := he) (hpl := hpl)) fun d z hz => ?_
  cases d <;> simp only [uInt] at hz <;> cases hz
  · exact ⟨_, call_int1, fun S H v Q ex d1 q => .inr ⟨_, by rw [dq_bool d1], q _ S H (Grow.refl ex) (.int _)⟩⟩
  · exact ⟨_, call_int1, fun S H v Q ex d1 q => .inl ⟨_, by rw [dq_int d1], q _ S H (Grow.refl ex) (.int _)⟩⟩
omit [TabSet] in
/-- isinstance(x, T), T a built-in class -/
def tyD : D → String
  | .none => "NoneType"
  | .bool _ => "bool"
  | .int _ => "int"
  | .str _ => "str"
  | .list _ => "list"
  | .tuple _ => "tuple"
  | .dict _ => "dict"
omit [TabSet] in
def uIs0 (T : String) : D → Option D
  | .dict _ => none
  | d => (kitB (tyD d) T).map .bool
omit [TabSet] in
/-- the common types, without the kit's tables -/
def fIs (T : String) (d : D) : Option Bool :=
  if T = "int" then some (match d with | .int _ | .bool _ => true | _ => false)
  else if T = "bool" then some (match d with | .bool _ => true | _ => false)
  else if T = "tuple" then some (match d with | .tuple _ => true | _ => false)
  else if T = "list" then some (match d with | .list _ => true | _ => false)
  else none
omit [TabSet] in
def uIs (T : String) (d : D) : Option D := match d with
  | .dict _ => none
  | d => match fIs T d with
    | some b => some (.bool b)
    | none => uIs0 T d
omit [TabSet] in
theorem fIs_ok {T : String} {d : D} {b : Bool} (nd : ∀ k, d ≠ .dict k) (h : fIs T d = some b) : uIs0 T d = some (.bool b) := by
  unfold fIs at h
  split at h
  · subst T; cases d <;> cases h <;> first | rfl | exact absurd rfl (nd _)
  split at h
  · subst T; cases d <;> cases h <;> first | rfl | exact absurd rfl (nd _)
  split at h
  · subst T; cases d <;> cases h <;> first | rfl | exact absurd rfl (nd _)
  split at h
  · subst T; cases d <;> cases h <;> first | rfl | exact absurd rfl (nd _)
  · cases h
omit [TabSet] in
theorem uIs_0 {T : String} {d r : D} (h : uIs T d = some r) : uIs0 T d = some r := by
  unfold uIs at h
  split at h
  · cases h
  · rename_i d0 nd
    split at h
    · rename_i b hb
      cases h
      exact fIs_ok nd hb
    · exact h
theorem e_isi {pp pt : Pos} {y : Str} {T : String} (hg : Gl X "isinstance" := by rfl) (hm : X.mg "isinstance" = none) (hgT : Gl X y := by rfl) (hmT : X.mg y = none) (hvT : bootBuiltins y = some (.type T)) (ha : PE X a (SX X.K F f)) (hnT : y ≠ "__name__" := by decide) (hdT : (y == ("__debug__" : Str)) = false := by decide)
    (he : starEach (a :: [.Name y pt]) X.env = (false, eval a X.env) :: starEach [.Name y pt] X.env := by rfl) (hpl : (backTo pos (starEach [.Name y pt] X.env)).any (·.1) = false := by rfl) :
    PE X (.Call (.Name "isinstance" pp) [a, .Name y pt] [] pos) (SE X.K F (f1 (uIs T) f)) := by
  refine pe_of fun S δ d δ' σ H Q R hf q => ⟨_, pe_callB call_isi hg hm (by decide +kernel) (pa_cons ha (pa_cons (pe_bltn hgT hmT hvT (v := .ty T) rfl hnT hdT) pa_nil (by rfl)) he) (he := he) (hpl := hpl), ?_⟩
  obtain ⟨d0, h1, h2⟩ := f1_of hf
  replace h2 := uIs_0 h2
  have hk : ∃ k, kitB (tyD d0) T = some k ∧ d = .bool k := by
    cases d0 <;> simp only [uIs0] at h2 <;> first | cases h2 | skip
    all_goals
      cases hkk : kitB _ T with
      | none => rw [hkk] at h2; cases h2
      | some k =>
        rw [hkk] at h2
        cases h2
        exact ⟨k, rfl, rfl⟩
  obtain ⟨k, hk, rfl⟩ := hk
  refine ⟨S, δ, d0, δ', R, h1, fun v S1 H1 s1 R1 d1 => ?_⟩
  refine ⟨v, .ty T, .type (tyD d0), .type T, k, rfl, .ty T, ?_, kit_ty hk, q _ S1 H1 s1 R1 (.bl k)⟩
  cases d0 with
  | none => rw [dq_none d1]; exact .base .non
  | bool b => rw [dq_bool d1]; exact .base (.bl b)
  | int i => rw [dq_int d1]; exact .base (.int i)
  | str z => rw [dq_str d1]; exact .base (.str z)
  | list ds =>
    obtain ⟨p1, v1, rfl, e1, _⟩ := d1
    exact .base (.lst e1)
  | tuple ds =>
    obtain ⟨p1, v1, rfl, e1, _⟩ := dq_tup d1
    obtain ⟨its, n, e2⟩ := e1
    exact .fTuple (R1.sub _ _ e2)
  | dict _ => cases h2

/-! ### ranges -/
omit [TabSet] in
def rgD (a b : Int) : List D := (List.range (b - a).toNat).map fun i => .int (a + (i : Nat))
theorem dqa_rg (S : Hp) (a b : Int) : DqAll S (rgV a b) (rgD a b) := by
  unfold rgV rgD
  generalize List.range (b - a).toNat = l
  induction l with
  | nil => exact .nil
  | cons i r ih => exact .cons (.int _) ih
omit [TabSet] in
def rgOk (a b : Int) : Bool := decide (0 ≤ a) && decide (b ≤ 100000) && decide (a ≤ 100000) && decide (-100000 ≤ b)
theorem rgOk_of {a b : Int} (h : rgOk a b = true) : RgOk a b := by
  unfold rgOk at h
  simp only [Bool.and_eq_true, decide_eq_true_eq] at h
  exact ⟨by omega, by omega, by omega, by omega, by omega⟩
abbrev MR := DE → Option (Int × Int × DE)
def SRg (K : PySem.W.Frag) (F : Fr) (f : MR) : L2.St → Hp → (Int → Int → Hp → Prop) → Prop := fun σ H Q => ∃ S δ a b δ', RSt K F S H σ δ ∧ f δ = some (a, b, δ') ∧ ∀ S' H', Stp S H S' H' σ δ δ' → RSt K F S' H' σ δ' → Q a b H'
omit [TabSet] in
def r1 (f : M) : MR := fun δ => match f δ with
  | some (.int n, δ') => some (0, n, δ')
  | _ => none
omit [TabSet] in
def r2 (f g : M) : MR := fun δ => match f δ with
  | some (.int a, δ1) => match g δ1 with
    | some (.int b, δ2) => some (a, b, δ2)
    | _ => none
  | _ => none
theorem rg_of {e : Expr} {t t' : L2.St → Hp → (Int → Int → Hp → Prop) → Prop} (h : PRg X e t) (w : ∀ σ H Q, t' σ H Q → t σ H Q) : PRg X e t' := fun pins s σ H Q I hw => h pins s σ H Q I (w σ H Q hw)
theorem rg_1 {pp : Pos} (hg : Gl X "range" := by rfl) (hm : X.mg "range" = none) (ha : PE X a (SE X.K F f)) (na : starEach [a] X.env = (false, eval a X.env) :: starEach [] X.env := by rfl) : PRg X (.Call (.Name "range" pp) [a] [] pos) (SRg X.K F (r1 f)) :=
  rg_of (prg_1 hg hm ha na) fun σ H Q hw => by
    obtain ⟨S, δ, i, j, δ', R, hf, q⟩ := hw
    unfold r1 at hf
    split at hf
    · rename_i n δ1 h1
      cases hf
      exact ⟨S, δ, _, _, R, h1, fun v S1 H1 s1 R1 d1 => ⟨_, dq_int d1, q S1 H1 s1 R1⟩⟩
    · cases hf
theorem rg_2 {pp : Pos} (hg : Gl X "range" := by rfl) (hm : X.mg "range" = none) (ha : PE X a (SE X.K F f)) (hb : PE X b (SE X.K F g)) (na : starEach [a, b] X.env = (false, eval a X.env) :: starEach [b] X.env := by rfl)
    (nb : starEach [b] X.env = (false, eval b X.env) :: starEach [] X.env := by rfl) (hp : (backTo pos (starEach [b] X.env)).any (·.1) = false := by rfl) : PRg X (.Call (.Name "range" pp) [a, b] [] pos) (SRg X.K F (r2 f g)) :=
  rg_of (prg_2 hg hm ha hb na nb hp) fun σ H Q hw => by
    obtain ⟨S, δ, i, j, δ', R, hf, q⟩ := hw
    unfold r2 at hf
    split at hf
    · rename_i n δ1 h1
      split at hf
      · rename_i m δ2 h2
        cases hf
        exact ⟨S, δ, _, _, R, h1, fun v S1 H1 s1 R1 d1 => ⟨S1, _, _, _, R1, h2, fun w S2 H2 s2 R2 d2 => ⟨_, _, dq_int d1, dq_int d2, q S2 H2 (s1.trans s2) R2⟩⟩⟩
      · cases hf
    · cases hf
omit [TabSet] in
def lRg (fr : MR) : MA := fun δ => match fr δ with
  | some (a, b, δ') => if rgOk a b = true then some (rgD a b, δ') else none
  | none => none
theorem f_listRg {pp : Pos} {fr : MR} (hc : X.calm = true) (hg : Gl X "list" := by rfl) (hm : X.mg "list" = none) (he : PRg X e (SRg X.K F fr)) (na : starEach [e] X.env = (false, eval e X.env) :: starEach [] X.env := by rfl) : PE X (.Call (.Name "list" pp) [e] [] pos) (SF X.K F (lRg fr)) := by
  refine pf_of fun S δ d δ' σ H Q R hf q => ⟨_, pe_listRg hc hg hm he na, ?_⟩
  unfold lRg at hf
  cases h1 : fr δ with
  | none => rw [h1] at hf; cases hf
  | some p =>
    obtain ⟨i, j, δ1⟩ := p
    rw [h1] at hf
    simp only at hf
    split at hf
    · rename_i hk
      cases hf
      refine ⟨S, δ, i, j, _, R, h1, fun S1 H1 s1 R1 => ⟨rgOk_of hk, fun p hp => ?_⟩⟩
      obtain ⟨R2, s2, n2⟩ := lay_fresh (o := .lst (rgV i j)) R1 hp
      refine q p _ S1 _ (s1.trans s2) R2 ?_ n2 upd_same (dqa_rg S1 i j)
      cases hz : H p with
      | none => rfl
      | some o =>
        obtain ⟨o', q'⟩ := s1.dom p o hz
        rw [hp] at q'; cases q'
    · cases hf
omit [TabSet] in
def fTupRg (fr : MR) : M := fun δ => match fr δ with
  | some (a, b, δ') => if rgOk a b = true then some (.tuple (rgD a b), δ') else none
  | none => none
theorem e_tupRg {pp : Pos} {fr : MR} (hc : X.calm = true) (hg : Gl X "tuple" := by rfl) (hm : X.mg "tuple" = none) (he : PRg X e (SRg X.K F fr)) (na : starEach [e] X.env = (false, eval e X.env) :: starEach [] X.env := by rfl) : PE X (.Call (.Name "tuple" pp) [e] [] pos) (SE X.K F (fTupRg fr)) := by
  refine pe_of fun S δ d δ' σ H Q R hf q => ⟨_, pe_rgF hc hg hm he na, ?_⟩
  unfold fTupRg at hf
  cases h1 : fr δ with
  | none => rw [h1] at hf; cases hf
  | some p =>
    obtain ⟨i, j, δ1⟩ := p
    rw [h1] at hf
    simp only at hf
    split at hf
    · rename_i hk
      cases hf
      refine ⟨S, δ, i, j, _, R, h1, fun S1 H1 s1 R1 => ⟨rgOk_of hk, fun p its n hp => ?_⟩⟩
      obtain ⟨g1, g2⟩ := grow_tup R1.sub its n hp (dqa_rg S1 i j)
      exact q _ _ _ (s1.trans (Stp.grow g1)) (R1.grow g1) g2
    · cases hf
end
end Sd

/-! What is walked, targets, comprehensions. -/
namespace Sd
open PySem PySem.Spec PyProof.Rows L2
open Evl (Ex)
variable [TabSet]
structure Its (J : It) (S : Hp) (ds : List D) : Prop where
  go : ∀ i S2 H2, Ex S S2 → Ex S2 H2 → i < ds.length → J.go i H2
  yld : ∀ i S2 H2 x H3 d, Ex S S2 → Ex S2 H2 → J.yld i H2 x H3 → ds[i]? = some d → ∃ S3, Grow S2 H2 S3 H3 ∧ Dq S3 x d
  stop : ∀ i S2 H2, Ex S S2 → Ex S2 H2 → ds.length ≤ i → J.stop i H2
def SI (K : PySem.W.Frag) (F : Fr) (f : MA) : TI := fun σ H R => ∃ S δ ds δ', RSt K F S H σ δ ∧ f δ = some (ds, δ') ∧
  ∀ J S' H', Stp S H S' H' σ δ δ' → RSt K F S' H' σ δ' → Its J S' ds → R J H'
section
variable {X : Cx} {F : Fr} {e a b c tg : Expr} {pos p : Pos} {f g h : M} {tf : MT}
theorem pi_of {ff : MA} (h : ∀ S δ ds δ' σ H R, RSt X.K F S H σ δ → ff δ = some (ds, δ') → (∀ J S' H', Stp S H S' H' σ δ δ' → RSt X.K F S' H' σ δ' → Its J S' ds → R J H') → ∃ t, PI X tg e t ∧ t σ H R) : PI X tg e (SI X.K F ff) :=
  ⟨fun pins s σ H R I hw => by
    obtain ⟨S, δ, d, δ', Rs, hf, q⟩ := hw
    obtain ⟨t, ht, hq⟩ := h S δ d δ' σ H R Rs hf q
    exact ht.run pins s σ H R I hq⟩
theorem dqa_at {S : Hp} {vs : List V} {ds : List D} {i : Nat} {d : D} {x : V} (h : DqAll S vs ds) (e : ds[i]? = some d) (ex : vs[i]? = some x) : Dq S x d := by
  obtain ⟨v, ev, dv⟩ := dqa_get' h e
  rw [ex] at ev
  cases ev
  exact dv
theorem its_list {K : PySem.W.Frag} {S : Hp} {p : Addr} {vs : List V} {ds : List D} (e1 : S p = some (.lst vs)) (d1 : DqAll S vs ds) : Its (Itl K p) S ds where
  go := fun i S2 H2 x1 x2 hi => by
    have hl := dqa_len d1
    exact ⟨vs, vs[i]'(by omega), SqL.of (x2 _ _ (x1 _ _ e1)), List.getElem?_eq_getElem (by omega)⟩
  yld := fun i S2 H2 x H3 d x1 x2 hy hd => by
    obtain ⟨rfl, hy⟩ := hy
    exact ⟨S2, Grow.refl x2, dq_ext x1 (dqa_at d1 hd (hy vs (SqL.of (x2 _ _ (x1 _ _ e1)))))⟩
  stop := fun i S2 H2 x1 x2 hi => ⟨vs, SqL.of (x2 _ _ (x1 _ _ e1)), by rw [dqa_len d1]; exact hi⟩
theorem its_tup {K : PySem.W.Frag} {S : Hp} {p : Addr} {vs : List V} {ds : List D} (e1 : Tp S p vs) (d1 : DqAll S vs ds) : Its (Itt K p) S ds where
  go := fun i S2 H2 x1 x2 hi => by
    have hl := dqa_len d1
    exact ⟨vs, vs[i]'(by omega), Tp.sq (Tp.ext x2 (Tp.ext x1 e1)), List.getElem?_eq_getElem (by omega)⟩
  yld := fun i S2 H2 x H3 d x1 x2 hy hd => by
    obtain ⟨rfl, hy⟩ := hy
    exact ⟨S2, Grow.refl x2, dq_ext x1 (dqa_at d1 hd (hy vs (Tp.sq (Tp.ext x2 (Tp.ext x1 e1)))))⟩
  stop := fun i S2 H2 x1 x2 hi => ⟨vs, Tp.sq (Tp.ext x2 (Tp.ext x1 e1)), by rw [dqa_len d1]; exact hi⟩
omit [TabSet] in
def iSeq (f : M) : MA := fun δ => match f δ with
  | some (.list ds, δ') => some (ds, δ')
  | some (.tuple ds, δ') => some (ds, δ')
  | _ => none
theorem i_seq (he : PE X e (SE X.K F f)) : PI X tg e (SI X.K F (iSeq f)) := by
  refine pi_of fun S δ ds δ' σ H R Rs hf q => ?_
  unfold iSeq at hf
  split at hf
  · rename_i zs δ1 h1
    cases hf
    refine ⟨_, pi_list he, S, δ, _, _, Rs, h1, fun v S1 H1 s1 R1 d1 => ?_⟩
    obtain ⟨p1, v1, rfl, e1, d1⟩ := dq_list d1
    exact ⟨p1, rfl, ⟨v1, SqL.of (R1.sub _ _ e1)⟩, q _ S1 H1 s1 R1 (its_list e1 d1)⟩
  · rename_i zs δ1 h1
    cases hf
    refine ⟨_, pi_tup he, S, δ, _, _, Rs, h1, fun v S1 H1 s1 R1 d1 => ?_⟩
    obtain ⟨p1, v1, rfl, e1, d1⟩ := dq_tup d1
    exact ⟨p1, rfl, ⟨v1, Tp.sq (Tp.ext R1.sub e1)⟩, q _ S1 H1 s1 R1 (its_tup e1 d1)⟩
  · cases hf
theorem its_rg {S : Hp} {i j : Int} : Its (Itr i (j - i).toNat) S (rgD i j) where
  go := fun k S2 H2 x1 x2 hi => by
    unfold rgD at hi
    rw [List.length_map, List.length_range] at hi
    exact hi
  yld := fun k S2 H2 x H3 d x1 x2 hy hd => by
    obtain ⟨rfl, rfl⟩ := hy
    refine ⟨S2, Grow.refl x2, ?_⟩
    unfold rgD at hd
    rw [List.getElem?_map] at hd
    cases hk : (List.range (j - i).toNat)[k]? with
    | none => rw [hk] at hd; cases hd
    | some m =>
      rw [hk] at hd
      cases hd
      have hm : m = k := by
        have := (List.getElem?_eq_some_iff.mp hk).2
        rw [List.getElem_range] at this
        exact this.symm
      subst hm
      exact .int _
  stop := fun k S2 H2 x1 x2 hi => by
    unfold rgD at hi
    rw [List.length_map, List.length_range] at hi
    exact hi
theorem i_rg1 {pp : Pos} (hg : Gl X "range" := by rfl) (hm : X.mg "range" = none) (ha : PE X a (SE X.K F f)) (hs : starEach [a] X.env = [(false, eval a X.env)] := by rfl) (na : starEach [a] X.env = (false, eval a X.env) :: starEach [] X.env := by rfl) : PI X tg (.Call (.Name "range" pp) [a] [] pos) (SI X.K F (lRg (r1 f))) := by
  refine pi_of fun S δ ds δ' σ H R Rs hf q => ⟨_, pi_range1 hg hm (pa_cons ha pa_nil na) hs, ?_⟩
  unfold lRg r1 at hf
  cases h1 : f δ with
  | none => rw [h1] at hf; cases hf
  | some p =>
    obtain ⟨d, δ1⟩ := p
    rw [h1] at hf
    cases d <;> simp only at hf <;> first | cases hf | skip
    rename_i n
    split at hf
    · rename_i hk
      cases hf
      have ok := rgOk_of hk
      refine ⟨S, δ, _, _, Rs, h1, fun v S1 H1 s1 R1 d1 => ⟨n, by rw [dq_int d1], ok.2.2.1, ok.2.2.2.1, ?_⟩⟩
      have e0 : n.toNat = (n - 0).toNat := by omega
      rw [e0]
      exact q _ S1 H1 s1 R1 its_rg
    · cases hf
theorem i_rg2 {pp : Pos} (hg : Gl X "range" := by rfl) (hm : X.mg "range" = none) (ha : PE X a (SE X.K F f)) (hb : PE X b (SE X.K F g)) (hs : starEach [a, b] X.env = [(false, eval a X.env), (false, eval b X.env)] := by rfl) (hs2 : starEach [b] X.env = [(false, eval b X.env)] := by rfl)
    (na : starEach [a, b] X.env = (false, eval a X.env) :: starEach [b] X.env := by rfl) (nb : starEach [b] X.env = (false, eval b X.env) :: starEach [] X.env := by rfl) : PI X tg (.Call (.Name "range" pp) [a, b] [] pos) (SI X.K F (lRg (r2 f g))) := by
  refine pi_of fun S δ ds δ' σ H R Rs hf q => ⟨_, pi_range2 hg hm (pa_cons ha (pa_cons hb pa_nil nb) na) hs hs2, ?_⟩
  unfold lRg r2 at hf
  cases h1 : f δ with
  | none => rw [h1] at hf; cases hf
  | some p =>
    obtain ⟨d, δ1⟩ := p
    rw [h1] at hf
    cases d <;> simp only at hf <;> first | cases hf | skip
    rename_i i
    cases h2 : g δ1 with
    | none => rw [h2] at hf; cases hf
    | some p =>
      obtain ⟨d2, δ2⟩ := p
      rw [h2] at hf
      cases d2 <;> simp only at hf <;> first | cases hf | skip
      rename_i j
      split at hf
      · rename_i hk
        cases hf
        have ok := rgOk_of hk
        exact ⟨S, δ, _, _, Rs, h1, fun v S1 H1 s1 R1 d1 => ⟨S1, _, _, _, R1, h2, fun w S2 H2 s2 R2 d2 => ⟨i, j, by rw [dq_int d1, dq_int d2], ⟨ok.1, ok.2.1, ok.2.2.1, ok.2.2.2.1⟩, q _ S2 H2 (s1.trans s2) R2 its_rg⟩⟩⟩
      · cases hf
omit [TabSet] in
/-- zip of two lists, of two tuples -/
def zipD : List D → List D → List D
  | x :: xs, y :: ys => wP [x, y] :: zipD xs ys
  | _, _ => []
theorem zipD_len : ∀ xs ys : List D, (zipD xs ys).length = min xs.length ys.length
  | [], ys => by simp [zipD]
  | x :: xs, [] => by simp [zipD]
  | x :: xs, y :: ys => by simp only [zipD, List.length_cons, zipD_len xs ys]; omega
theorem zipD_get : ∀ (xs ys : List D) (i : Nat) (d : D), (zipD xs ys)[i]? = some d → ∃ x y, xs[i]? = some x ∧ ys[i]? = some y ∧ d = wP [x, y]
  | [], ys, i, d, h => by simp [zipD] at h
  | x :: xs, [], i, d, h => by simp [zipD] at h
  | x :: xs, y :: ys, 0, d, h => ⟨x, y, rfl, rfl, (Option.some.inj h).symm⟩
  | x :: xs, y :: ys, i + 1, d, h => zipD_get xs ys i d h
omit [TabSet] in
def iZip2 (f g : M) : MA := fun δ => match f δ with
  | some (.list xs, δ1) => match g δ1 with
    | some (.list ys, δ2) => some (zipD xs ys, δ2)
    | _ => none
  | some (.tuple xs, δ1) => match g δ1 with
    | some (.tuple ys, δ2) => some (zipD xs ys, δ2)
    | _ => none
  | _ => none
theorem pair_new {S2 H2 : Hp} (x2 : Ex S2 H2) {T : Addr} {x y : V} {d1 d2 : D} (hT : H2 T = none) (h1 : Dq S2 x d1) (h2 : Dq S2 y d2) : ∃ S3, Grow S2 H2 S3 (upd H2 T (.tup [x, y])) ∧ Dq S3 (.ref T) (wP [d1, d2]) :=
  ⟨_, Grow.new x2 hT, .wt upd_same (dqa_ext (Grow.new x2 hT).s (.cons h1 (.cons h2 .nil)))⟩
theorem i_zip {pp tpos : Pos} {elts : List Expr} {kk : Nat} (hg : Gl X "zip" := by rfl) (hm : X.mg "zip" = none) (ha : PE X a (SE X.K F f)) (hb : PE X b (SE X.K F g)) (hs : starEach [a, b] X.env = (false, eval a X.env) :: starEach [b] X.env := by rfl)
    (hpl : (backTo pos (starEach [b] X.env)).any (·.1) = false := by rfl) (nb : starEach [b] X.env = (false, eval b X.env) :: starEach [] X.env := by rfl) : PI X (.Tuple elts kk tpos) (.Call (.Name "zip" pp) [a, b] [] pos) (SI X.K F (iZip2 f g)) := by
  refine pi_of fun S δ ds δ' σ H R Rs hf q => ⟨_, RZ.pi_zipA hg hm (pa_cons ha (pa_cons hb pa_nil nb) hs) hs hpl, ?_⟩
  unfold iZip2 at hf
  split at hf
  · rename_i xs δ1 h1
    split at hf
    · rename_i ys δ2 h2
      cases hf
      refine ⟨S, δ, _, _, Rs, h1, fun v S1 H1 s1 R1 d1 => ⟨S1, _, _, _, R1, h2, fun w S2 H2 s2 R2 d2 => ?_⟩⟩
      obtain ⟨p1, v1, rfl, e1, d1⟩ := dq_list (dq_ext s2.s d1)
      obtain ⟨p2, v2, rfl, e2, d2⟩ := dq_list d2
      have l1 := dqa_len d1
      have l2 := dqa_len d2
      refine ⟨p1, p2, v1, v2, rfl, .inl ⟨SqL.of (R2.sub _ _ e1), SqL.of (R2.sub _ _ e2), q _ S2 H2 (s1.trans s2) R2 ⟨fun i S3 H3 x1 x2 hi => ?_, fun i S3 H3 x H4 d x1 x2 hy hd => ?_, fun i S3 H3 x1 x2 hi => ?_⟩⟩⟩
      · rw [zipD_len] at hi
        exact ⟨v1, v2, v1[i]'(by omega), v2[i]'(by omega), SqL.of (x2 _ _ (x1 _ _ e1)), SqL.of (x2 _ _ (x1 _ _ e2)), List.getElem?_eq_getElem _, List.getElem?_eq_getElem _⟩
      · obtain ⟨T, x, y, rfl, hT, rfl, k1, k2⟩ := hy
        obtain ⟨dx, dy, z1, z2, rfl⟩ := zipD_get _ _ _ _ hd
        exact pair_new x2 hT (dq_ext x1 (dqa_at d1 z1 (k1 _ (SqL.of (x2 _ _ (x1 _ _ e1)))))) (dq_ext x1 (dqa_at d2 z2 (k2 _ (SqL.of (x2 _ _ (x1 _ _ e2))))))
      · rw [zipD_len] at hi
        exact ⟨v1, v2, SqL.of (x2 _ _ (x1 _ _ e1)), SqL.of (x2 _ _ (x1 _ _ e2)), by omega⟩
    · cases hf
  · rename_i xs δ1 h1
    split at hf
    · rename_i ys δ2 h2
      cases hf
      refine ⟨S, δ, _, _, Rs, h1, fun v S1 H1 s1 R1 d1 => ⟨S1, _, _, _, R1, h2, fun w S2 H2 s2 R2 d2 => ?_⟩⟩
      obtain ⟨p1, v1, rfl, e1, d1⟩ := dq_tup (dq_ext s2.s d1)
      obtain ⟨p2, v2, rfl, e2, d2⟩ := dq_tup d2
      have l1 := dqa_len d1
      have l2 := dqa_len d2
      refine ⟨p1, p2, v1, v2, rfl, .inr ⟨Tp.sq (Tp.ext R2.sub e1), Tp.sq (Tp.ext R2.sub e2), q _ S2 H2 (s1.trans s2) R2 ⟨fun i S3 H3 x1 x2 hi => ?_, fun i S3 H3 x H4 d x1 x2 hy hd => ?_, fun i S3 H3 x1 x2 hi => ?_⟩⟩⟩
      · rw [zipD_len] at hi
        exact ⟨v1, v2, v1[i]'(by omega), v2[i]'(by omega), Tp.sq (Tp.ext x2 (Tp.ext x1 e1)), Tp.sq (Tp.ext x2 (Tp.ext x1 e2)), List.getElem?_eq_getElem _, List.getElem?_eq_getElem _⟩
      · obtain ⟨T, x, y, rfl, hT, rfl, k1, k2⟩ := hy
        obtain ⟨dx, dy, z1, z2, rfl⟩ := zipD_get _ _ _ _ hd
        exact pair_new x2 hT (dq_ext x1 (dqa_at d1 z1 (k1 _ (Tp.sq (Tp.ext x2 (Tp.ext x1 e1)))))) (dq_ext x1 (dqa_at d2 z2 (k2 _ (Tp.sq (Tp.ext x2 (Tp.ext x1 e2))))))
      · rw [zipD_len] at hi
        exact ⟨v1, v2, Tp.sq (Tp.ext x2 (Tp.ext x1 e1)), Tp.sq (Tp.ext x2 (Tp.ext x1 e2)), by omega⟩
    · cases hf
  · cases hf
omit [TabSet] in
/-- enumerate of a list -/
def enumD : Nat → List D → List D
  | _, [] => []
  | i, x :: xs => wP [.int (i : Nat), x] :: enumD (i + 1) xs
theorem enumD_len : ∀ (i : Nat) (xs : List D), (enumD i xs).length = xs.length
  | _, [] => rfl
  | i, x :: xs => by simp only [enumD, List.length_cons, enumD_len (i + 1) xs]
theorem enumD_get : ∀ (k : Nat) (xs : List D) (i : Nat) (d : D), (enumD k xs)[i]? = some d → ∃ x, xs[i]? = some x ∧ d = wP [.int ((k + i : Nat) : Int), x]
  | k, [], i, d, h => by simp [enumD] at h
  | k, x :: xs, 0, d, h => ⟨x, rfl, (Option.some.inj h).symm⟩
  | k, x :: xs, i + 1, d, h => by
    obtain ⟨z, h1, h2⟩ := enumD_get (k + 1) xs i d h
    refine ⟨z, h1, ?_⟩
    rw [h2, show k + 1 + i = k + (i + 1) by omega]
omit [TabSet] in
def iEnumL (f : M) : MA := fun δ => match f δ with
  | some (.list xs, δ1) => some (enumD 0 xs, δ1)
  | _ => none
theorem i_enumL {pp tpos : Pos} {elts : List Expr} {kk : Nat} (hg : Gl X "enumerate" := by rfl) (hm : X.mg "enumerate" = none) (ha : PE X a (SE X.K F f)) (hs : starEach [a] X.env = [(false, eval a X.env)] := by rfl) (na : starEach [a] X.env = (false, eval a X.env) :: starEach [] X.env := by rfl) :
    PI X (.Tuple elts kk tpos) (.Call (.Name "enumerate" pp) [a] [] pos) (SI X.K F (iEnumL f)) := by
  refine pi_of fun S δ ds δ' σ H R Rs hf q => ⟨_, pi_enum hg hm (pa_cons ha pa_nil na) hs, ?_⟩
  unfold iEnumL at hf
  split at hf
  · rename_i xs δ1 h1
    cases hf
    refine ⟨S, δ, _, _, Rs, h1, fun v S1 H1 s1 R1 d1 => ?_⟩
    obtain ⟨p1, v1, rfl, e1, d1⟩ := dq_list d1
    have l1 := dqa_len d1
    refine ⟨p1, v1, rfl, SqL.of (R1.sub _ _ e1), q _ S1 H1 s1 R1 ⟨fun i S3 H3 x1 x2 hi => ?_, fun i S3 H3 x H4 d x1 x2 hy hd => ?_, fun i S3 H3 x1 x2 hi => ?_⟩⟩
    · rw [enumD_len] at hi
      exact ⟨v1, v1[i]'(by omega), SqL.of (x2 _ _ (x1 _ _ e1)), List.getElem?_eq_getElem _⟩
    · obtain ⟨T, x, rfl, hT, rfl, k1⟩ := hy
      obtain ⟨dx, z1, rfl⟩ := enumD_get _ _ _ _ hd
      rw [Nat.zero_add]
      exact pair_new x2 hT (.int _) (dq_ext x1 (dqa_at d1 z1 (k1 _ (SqL.of (x2 _ _ (x1 _ _ e1))))))
    · rw [enumD_len] at hi
      exact ⟨v1, SqL.of (x2 _ _ (x1 _ _ e1)), by omega⟩
  · cases hf

/-! ### targets that are names -/
abbrev MG := D → DE → Option DE
abbrev MGs := List D → DE → Option DE
/-- the slots in vs take values -/
def SG (K : PySem.W.Frag) (F : Fr) (vs : List Nat) (g : MG) : TG := fun v σ H Q => ∃ S δ d δ', RSt K F S H σ δ ∧ Dq S v d ∧ g d δ = some δ' ∧
  ∀ σ', RSt K F S H σ' δ' → σ'.length = σ.length → (∀ j, j ∉ vs → σ'[j]? = σ[j]?) → (∀ (i : Nat) xs, δ'[i]? = some (.ow xs) → δ[i]? = some (.ow xs) ∧ i ∉ vs) → Q σ' H
def SGs (K : PySem.W.Frag) (F : Fr) (vs : List Nat) (g : MGs) : TGs := fun us σ H Q => ∃ S δ d δ', RSt K F S H σ δ ∧ DqAll S us d ∧ g d δ = some δ' ∧
  ∀ σ', RSt K F S H σ' δ' → σ'.length = σ.length → (∀ j, j ∉ vs → σ'[j]? = σ[j]?) → (∀ (i : Nat) xs, δ'[i]? = some (.ow xs) → δ[i]? = some (.ow xs) ∧ i ∉ vs) → Q σ' H
omit [TabSet] in
/-- no slot of vs is one's own -/
def noOwn (vs : List Nat) (δ : DE) : Bool := vs.all fun i => match δ[i]? with
  | some (.ow _) => false
  | _ => true
theorem noOwn_of {vs : List Nat} {δ : DE} (h : noOwn vs δ = true) {i : Nat} {xs : Ob} (e : δ[i]? = some (.ow xs)) : i ∉ vs := fun hm => by
  have q := List.all_eq_true.mp h i hm
  rw [e] at q
  cases q
omit [TabSet] in
/-- the slot 0 is not a list that is lent -/
def free0 (i : Nat) (δ : DE) : Bool := match i, δ[0]? with
  | 0, some (Slot.ow _) => false
  | _, _ => true
theorem free0_of {i : Nat} {δ : DE} (h : free0 i δ = true) : i = 0 → ∀ xs, δ[0]? ≠ some (.ow xs) := fun e xs z => by
  subst e
  unfold free0 at h
  rw [z] at h
  cases h
omit [TabSet] in
def gN (i : Nat) : MG := fun d δ => if free0 i δ = true then some (δ.set i (.sh d)) else none
theorem set_ow {δ : DE} {i j : Nat} {d : D} {xs : Ob} (h : (δ.set i (.sh d))[j]? = some (.ow xs)) : δ[j]? = some (.ow xs) ∧ j ≠ i := by
  by_cases hj : i = j
  · subst hj
    by_cases hl : i < δ.length
    · rw [List.getElem?_set_self hl] at h; cases h
    · rw [List.getElem?_eq_none (by rw [List.length_set]; omega)] at h; cases h
  · rw [List.getElem?_set_ne hj] at h
    exact ⟨h, fun z => hj z.symm⟩
theorem pg_of {vs : List Nat} {gg : MG} {t : TG} (hp : PG X tg t) (w : ∀ v σ H Q, SG X.K F vs gg v σ H Q → t v σ H Q) : PG X tg (SG X.K F vs gg) := ⟨fun pins s σ H v u Q I r hw => hp.run pins s σ H v u Q I r (w v σ H Q hw)⟩
theorem pgs_of {es : List Expr} {vs : List Nat} {gg : MGs} {t : TGs} (hp : PGs X es t) (w : ∀ v σ H Q, SGs X.K F vs gg v σ H Q → t v σ H Q) : PGs X es (SGs X.K F vs gg) := ⟨fun pins s σ H v u Q I r hw => hp.run pins s σ H v u Q I r (w v σ H Q hw)⟩
theorem g_name {i : Nat} {x : Str} (hN : X.N.Nodup) (hi : X.N[i]? = some x := by rfl) (hx : Loc X.env.scope x := by first | exact Or.inl rfl | exact Or.inr rfl) (hf : X.fn x = true ∨ X.env.scope.names.lookup x = some .local := by first | exact .inl rfl | exact .inr rfl) : PG X (.Name x pos) (SG X.K F [i] (gN i)) :=
  pg_of (pg_name hN hi hx hf) fun v σ H Q hw => by
    obtain ⟨S, δ, d, δ', R, dv, hg, q⟩ := hw
    unfold gN at hg
    split at hg
    · rename_i hf0
      cases hg
      refine q _ (R.set_sh dv i (free0_of hf0)) (List.length_set) (fun j hj => ?_) fun j xs e => ?_
      · rw [List.getElem?_set_ne (fun z => hj (by rw [z]; exact List.mem_singleton.mpr rfl))]
      · obtain ⟨e1, e2⟩ := set_ow e
        exact ⟨e1, fun z => e2 (List.mem_singleton.mp z)⟩
    · cases hg
omit [TabSet] in
def gsNil : MGs := fun ds δ => match ds with
  | [] => some δ
  | _ => none
omit [TabSet] in
def gsCons (g : MG) (gs : MGs) : MGs := fun ds δ => match ds with
  | d :: r => match g d δ with
    | some δ1 => gs r δ1
    | none => none
  | _ => none
theorem gs_nil : PGs X [] (SGs X.K F [] gsNil) := pgs_of pgs_nil fun us σ H Q hw => by
  obtain ⟨S, δ, d, δ', R, dv, hg, q⟩ := hw
  cases dv with
  | nil =>
    cases hg
    exact ⟨rfl, q σ R rfl (fun _ _ => rfl) fun i xs e => ⟨e, by simp⟩⟩
  | cons _ _ => cases hg
theorem gs_cons {es : List Expr} {vs ws : List Nat} {gg : MG} {gs : MGs} (h1 : PG X e (SG X.K F vs gg)) (h2 : PGs X es (SGs X.K F ws gs)) (hs : (assignEach (e :: es) X.env).map (·.2) = assign e X.env :: (assignEach es X.env).map (·.2) := by rfl) : PGs X (e :: es) (SGs X.K F (vs ++ ws) (gsCons gg gs)) :=
  pgs_of (pgs_cons h1 h2 hs) fun us σ H Q hw => by
    obtain ⟨S, δ, d, δ', R, dv, hg, q⟩ := hw
    cases dv with
    | nil => cases hg
    | cons a1 r1 =>
      simp only [gsCons] at hg
      split at hg
      · rename_i δ1 k1
        refine ⟨_, _, rfl, S, δ, _, δ1, R, a1, k1, fun σ1 R1 l1 c1 o1 => ⟨S, δ1, _, δ', R1, r1, hg, fun σ2 R2 l2 c2 o2 => q σ2 R2 (l2.trans l1) (fun j hj => ?_) fun i xs e => ?_⟩⟩
        · rw [c2 j (fun z => hj (List.mem_append_right _ z)), c1 j (fun z => hj (List.mem_append_left _ z))]
        · obtain ⟨e1, n1⟩ := o2 i xs e
          obtain ⟨e2, n2⟩ := o1 i xs e1
          exact ⟨e2, fun z => (List.mem_append.mp z).elim n2 n1⟩
      · cases hg
omit [TabSet] in
theorem dq_wt {H : Hp} {v : V} {ds : List D} (h : Dq H v (.dict [(.none, .none), (.none, .list ds)])) : ∃ a xs, v = .ref a ∧ H a = some (.tup xs) ∧ DqAll H xs ds := by
  generalize hd : PyData.dict [(.none, .none), (.none, .list ds)] = d at h
  cases h with
  | wt e a =>
    cases hd
    exact ⟨_, _, rfl, e, a⟩
  | @dcK a kws kk e l b =>
    exfalso
    injection hd with hd
    cases kk with
    | nil => cases hd
    | cons p r =>
      obtain ⟨q, z⟩ := p
      cases q <;> simp [kD, keyD] at hd
  | @dcT a kws kk e l b =>
    exfalso
    injection hd with hd
    cases kk with
    | nil => simp [tD] at hd
    | cons p r => simp [tD, keysD] at hd
  | _ => cases hd
omit [TabSet] in
def gT (gs : MGs) : MG := fun d δ => match d with
  | .tuple ds => gs ds δ
  | .dict [(.none, .none), (.none, .list ds)] => gs ds δ
  | _ => none
theorem gs_len {gg : MGs} : True := trivial
theorem g_tup {es : List Expr} {k n : Nat} {vs : List Nat} {gs : MGs} (hc : X.calm = true) (h : PGs X es (SGs X.K F vs gs)) (hn : (assignEach es X.env).length = n := by rfl) (hst : (assignEach es X.env).findIdx? (·.1) = none := by rfl)
    (hl : ∀ ds δ δ', gs ds δ = some δ' → ds.length = n) : PG X (.Tuple es k pos) (SG X.K F vs (gT gs)) :=
  pg_of (pg_tup hc h hn hst) fun v σ H Q hw => by
    obtain ⟨S, δ, d, δ', R, dv, hg, q⟩ := hw
    unfold gT at hg
    split at hg
    · obtain ⟨p1, v1, rfl, e1, d1⟩ := dq_tup dv
      exact ⟨p1, v1, rfl, Tp.sq (Tp.ext R.sub e1), by rw [dqa_len d1]; exact hl _ _ _ hg, S, δ, _, δ', R, d1, hg, q⟩
    · rename_i ds
      obtain ⟨p1, v1, rfl, e1, d1⟩ := dq_wt dv
      exact ⟨p1, v1, rfl, SqT.of (R.sub _ _ e1), by rw [dqa_len d1]; exact hl _ _ _ hg, S, δ, _, δ', R, d1, hg, q⟩
    · cases hg
theorem gsNil_len : ∀ ds δ δ', gsNil ds δ = some δ' → ds.length = 0
  | [], _, _, _ => rfl
  | _ :: _, _, _, h => by cases h
theorem gsCons_len {g : MG} {gs : MGs} {n : Nat} (h : ∀ ds δ δ', gs ds δ = some δ' → ds.length = n) : ∀ ds δ δ', gsCons g gs ds δ = some δ' → ds.length = n + 1
  | [], _, _, e => by cases e
  | d :: r, δ, δ', e => by
    simp only [gsCons] at e
    split at e
    · rw [List.length_cons, h _ _ _ e]
    · cases e

/-! ### comprehensions -/
omit [TabSet] in
def wipeD (δ : DE) : List Nat → DE
  | [] => δ
  | v :: vs => (wipeD δ vs).set v .no
omit [TabSet] in
def mergeD (δ1 δ2 : DE) : List Nat → DE
  | [] => δ2
  | v :: vs => (mergeD δ1 δ2 vs).set v (δ1[v]?.getD .no)
theorem wipeD_len (δ : DE) : ∀ vs : List Nat, (wipeD δ vs).length = δ.length
  | [] => rfl
  | v :: vs => by unfold wipeD; rw [List.length_set, wipeD_len δ vs]
theorem mergeD_len (δ1 δ : DE) : ∀ vs : List Nat, (mergeD δ1 δ vs).length = δ.length
  | [] => rfl
  | v :: vs => by unfold mergeD; rw [List.length_set, mergeD_len δ1 δ vs]
theorem wipeD_out {δ : DE} {i : Nat} : ∀ {vs : List Nat}, i ∉ vs → (wipeD δ vs)[i]? = δ[i]?
  | [], _ => rfl
  | v :: vs, h => by
    unfold wipeD
    rw [List.getElem?_set_ne (fun z => h (by rw [z]; exact List.mem_cons_self)), wipeD_out fun z => h (List.mem_cons_of_mem _ z)]
theorem wipeD_in {δ : DE} {i : Nat} (hi : i < δ.length) : ∀ {vs : List Nat}, i ∈ vs → (wipeD δ vs)[i]? = some .no
  | v :: vs, h => by
    unfold wipeD
    by_cases e : v = i
    · subst e
      rw [List.getElem?_set_self (by rw [wipeD_len]; exact hi)]
    · rw [List.getElem?_set_ne e]
      exact wipeD_in hi ((List.mem_cons.mp h).resolve_left fun z => e z.symm)
theorem mergeD_out {δ1 δ : DE} {i : Nat} : ∀ {vs : List Nat}, i ∉ vs → (mergeD δ1 δ vs)[i]? = δ[i]?
  | [], _ => rfl
  | v :: vs, h => by
    unfold mergeD
    rw [List.getElem?_set_ne (fun z => h (by rw [z]; exact List.mem_cons_self)), mergeD_out fun z => h (List.mem_cons_of_mem _ z)]
theorem mergeD_in {δ1 δ : DE} {i : Nat} (hi : i < δ.length) (h1 : i < δ1.length) : ∀ {vs : List Nat}, i ∈ vs → (mergeD δ1 δ vs)[i]? = δ1[i]?
  | v :: vs, h => by
    unfold mergeD
    by_cases e : v = i
    · subst e
      rw [List.getElem?_set_self (by rw [mergeD_len]; exact hi), List.getElem?_eq_getElem h1]
      rfl
    · rw [List.getElem?_set_ne e]
      exact mergeD_in hi h1 ((List.mem_cons.mp h).resolve_left fun z => e z.symm)
/-- the own names are wiped -/
theorem RSt.wipe {K : PySem.W.Frag} {S H : Hp} {σ τ : L2.St} {δ : DE} {vs : List Nat} (R : RSt K F S H σ δ) (hl : τ.length = σ.length) (hs : ∀ j, j ∉ vs → τ[j]? = σ[j]?) (h0 : ∀ xs, δ[0]? = some (.ow xs) → 0 ∉ vs) : RSt K F S H τ (wipeD δ vs) := by
  have look : ∀ (j : Nat) (s : Slot), (wipeD δ vs)[j]? = some s → (j ∈ vs ∧ s = .no) ∨ (j ∉ vs ∧ δ[j]? = some s) := fun j s h => by
    by_cases hj : j ∈ vs
    · have hlt : j < δ.length := by
        have := (List.getElem?_eq_some_iff.mp h).1
        rwa [wipeD_len] at this
      rw [wipeD_in hlt hj] at h
      exact .inl ⟨hj, (Option.some.inj h).symm⟩
    · rw [wipeD_out hj] at h
      exact .inr ⟨hj, h⟩
  refine ⟨R.sub, R.base, R.dom0, R.tb0, R.s0, R.out, R.iop, by rw [wipeD_len, hl, R.len], fun i x s h1 h2 => ?_, fun i j a xs ys h1 h2 h3 h4 => ?_, fun a e => ?_⟩
  · rcases look i s h2 with ⟨_, rfl⟩ | ⟨n, q⟩
    · trivial
    · rw [hs i n] at h1
      exact R.slot i x s h1 q
  · rcases look i _ h1 with ⟨_, z⟩ | ⟨n1, q1⟩
    · cases z
    · rcases look j _ h2 with ⟨_, z⟩ | ⟨n2, q2⟩
      · cases z
      · rw [hs i n1] at h3
        rw [hs j n2] at h4
        exact R.sep i j a xs ys q1 q2 h3 h4
  · obtain ⟨p1, xs, p2⟩ := R.pin a e
    have n0 := h0 xs p2
    rw [hs 0 n0, wipeD_out n0]
    exact ⟨p1, xs, p2⟩
theorem Stp.trans' {S1 H1 S H S' H' : Hp} {σ τ : L2.St} {δ1 δ δ2 δ3 : DE} (a : Stp S1 H1 S H σ δ1 δ) (b : Stp S H S' H' τ δ2 δ3) (ho : ∀ b, Own τ δ2 b → Own σ δ1 b) (hk : ∀ (i : Nat) xs, δ3[i]? = some (.ow xs) → ∃ ys, δ1[i]? = some (.ow ys)) : Stp S1 H1 S' H' σ δ1 δ3 where
  s := a.s.trans b.s
  out := fun x o h => by
    obtain ⟨o', h'⟩ := a.dom x o h
    exact (b.out x o' h').trans (a.out x o h)
  keep := fun x o h nt n => b.keep x o (a.keep x o h nt n) nt fun q => n (ho x q)
  dom := fun x o h => by
    obtain ⟨o', h'⟩ := a.dom x o h
    exact b.dom x o' h'
  kind := hk
  tb := fun t => b.tb (a.tb t)
omit [TabSet] in
/-- a turn, and all -/
def cRun (g : MG) (tf : MT) (f : M) (vs : List Nat) : List D → DE → Option (List D × DE)
  | [], δ => some ([], δ)
  | d :: ds, δ => match g d δ with
    | some δ1 => match tf δ1 with
      | some (true, δ2) => match f δ2 with
        | some (y, δ3) => match cRun g tf f vs ds (wipeD δ3 vs) with
          | some (ys, δ4) => some (y :: ys, δ4)
          | none => none
        | none => none
      | some (false, δ2) => cRun g tf f vs ds (wipeD δ2 vs)
      | none => none
    | none => none
omit [TabSet] in
def lComp (it : MA) (g : MG) (tf : MT) (f : M) (vs : List Nat) : MA := fun δ => match it δ with
  | some (ds, δ1) => if noOwn vs δ1 = true ∧ ds.length ≤ 100000 then match cRun g tf f vs ds (wipeD δ1 vs) with
      | some (ys, δ2) => some (ys, mergeD δ1 δ2 vs)
      | none => none
    else none
  | none => none
omit [TabSet] in
def tTrue : MT := fun δ => some (true, δ)
theorem ts_nil : PTs X [] (ST X.K F tTrue) := ⟨fun pins s σ H Q I hw => by
  obtain ⟨S, δ, k, δ', R, hf, q⟩ := hw
  cases hf
  exact pts_nil.run pins s σ H Q I (q S H Stp.refl R)⟩
theorem ts_one {c : Expr} (h : PT X c (ST X.K F tf)) : PTs X [c] (ST X.K F tf) := pts_one h
theorem cRun_len {g : MG} {tf : MT} {f : M} {vs : List Nat} : ∀ {ds : List D} {δ δ' : DE} {ys : List D}, cRun g tf f vs ds δ = some (ys, δ') → ys.length ≤ ds.length
  | [], δ, δ', ys, h => by cases h; exact Nat.le_refl _
  | d :: ds, δ, δ', ys, h => by
    simp only [cRun] at h
    split at h
    · split at h
      · split at h
        · split at h
          · rename_i e
            cases h
            have := cRun_len e
            simp only [List.length_cons]
            omega
          · cases h
        · cases h
      · have := cRun_len h
        simp only [List.length_cons]
        omega
      · cases h
    · cases h
theorem wipe_eq {σ τ : L2.St} {vs : List Nat} (hl : τ.length = σ.length) (h : ∀ j, j ∉ vs → τ[j]? = σ[j]?) : wipe τ vs = wipe σ vs := by
  have win : ∀ {ρ : L2.St} {i : Nat} {us : List Nat}, i ∈ us → i < ρ.length → (wipe ρ us)[i]? = some none := by
    intro ρ i us
    induction us with
    | nil => intro h; cases h
    | cons v us ih =>
      intro hm hi
      unfold wipe
      by_cases e : v = i
      · subst e
        rw [List.getElem?_set_self (by rw [wipe_length]; exact hi)]
      · rw [List.getElem?_set_ne e]
        exact ih ((List.mem_cons.mp hm).resolve_left fun z => e z.symm) hi
  apply List.ext_getElem?
  intro i
  by_cases hi : i ∈ vs
  · by_cases hlt : i < σ.length
    · rw [win hi hlt, win hi (by rw [hl]; exact hlt)]
    · rw [List.getElem?_eq_none (by rw [wipe_length]; omega), List.getElem?_eq_none (by rw [wipe_length]; omega)]
  · rw [wipe_out hi, wipe_out hi, h i hi]
theorem wipe_ow {δ : DE} {vs : List Nat} {j : Nat} {xs : Ob} (e : (wipeD δ vs)[j]? = some (.ow xs)) : j ∉ vs ∧ δ[j]? = some (.ow xs) := by
  by_cases hj : j ∈ vs
  · have hlt : j < δ.length := by
      have := (List.getElem?_eq_some_iff.mp e).1
      rwa [wipeD_len] at this
    rw [wipeD_in hlt hj] at e; cases e
  · rw [wipeD_out hj] at e
    exact ⟨hj, e⟩
/-- an object that is nobody's changes -/
theorem RSt.free {K : PySem.W.Frag} {S H : Hp} {σ : L2.St} {δ : DE} (R : RSt K F S H σ δ) {p : Addr} {us ws : List V} (hS : S p = none) (hp : H p = some (.lst us)) (hn : ¬ Own σ δ p) (h0 : F.H0 p = none) (hio : F.io ≠ some p) : RSt K F S (upd H p (.lst ws)) σ δ := by
  refine ⟨fun b u e => ?_, fun b u e nt n => ?_, fun b u e => ?_, fun t => ⟨tabs_lst (R.tb0 t).1 hp, (R.tb0 t).2⟩, R.s0, R.out, fun b e => ?_, R.len, fun i x s h1 h2 => ?_, R.sep, R.pin⟩
  · rw [upd_ne (fun z => by rw [z, hS] at e; cases e)]; exact R.sub b u e
  · rw [upd_ne (fun z => by rw [z, h0] at e; cases e)]; exact R.base b u e nt n
  · rw [upd_ne (fun z => by rw [z, h0] at e; cases e)]; exact R.dom0 b u e
  · rw [upd_ne (fun z => hio (by rw [← z]; exact e))]; exact R.iop b e
  · have q := R.slot i x s h1 h2
    cases s with
    | no => trivial
    | sh d => exact q
    | scr ns => exact q
    | ow xs =>
      obtain ⟨a, vs, e, e1, e2, e3, e4⟩ := q
      exact ⟨a, vs, e, e1, e2, by rw [upd_ne (fun z => hn ⟨i, xs, h2, by rw [h1, e, z]⟩)]; exact e3, e4⟩
/-- the reading of a comprehension -/
theorem lc_read {K : PySem.W.Frag} {it : MA} {gg : MG} {vs : List Nat} {S : Hp} {δ δ' : DE} {ds : List D} {σ : L2.St} {H : Hp} {Q : VK} (R : RSt K F S H σ δ) (hf : lComp it gg tf f vs δ = some (ds, δ'))
    (q : ∀ a us S' H', Stp S H S' H' σ δ δ' → RSt K F S' H' σ δ' → H a = none → S' a = none → H' a = some (.lst us) → DqAll S' us ds → Q (.ref a) H') : tLc (SI K F it) (SG K F vs gg) (ST K F tf) (SE K F f) vs σ H Q := by
  unfold lComp at hf
  cases h1 : it δ with
  | none => rw [h1] at hf; cases hf
  | some p =>
    obtain ⟨zs, δ1⟩ := p
    rw [h1] at hf
    simp only at hf
    split at hf
    · rename_i hno
      obtain ⟨hno, hz⟩ := hno
      split at hf
      · rename_i ys δ2 hrun
        cases hf
        refine ⟨S, δ, zs, δ1, R, h1, fun J S1 H1 s1 R1 hJ => fun Dl hD => ?_⟩
        obtain ⟨R1', s1', n1⟩ := lay_fresh (o := .lst []) R1 hD
        have hH : H Dl = none := by
          cases hz : H Dl with
          | none => rfl
          | some o =>
            obtain ⟨o', q'⟩ := s1.dom Dl o hz
            rw [hD] at q'; cases q'
        obtain ⟨z1, z2⟩ := R1.frz hD
        have nownD : ¬ Own σ δ1 Dl := fun o => by
          obtain ⟨us, q', _⟩ := R1.own_in o
          rw [hD] at q'; cases q'
        -- between the turns
        refine ⟨fun i m H' => m = zs.length - i ∧ i ≤ zs.length ∧ ∃ S' δi acc done, RSt K F S' H' (wipe σ vs) δi ∧ Stp S1 H1 S' H' σ δ1 δi ∧ (∀ (j : Nat) xs, δi[j]? = some (.ow xs) → j ∉ vs) ∧ S' Dl = none ∧ H' Dl = some (.lst acc) ∧ DqAll S' acc done ∧ done.length ≤ i ∧
          ∃ rest, cRun gg tf f vs (zs.drop i) δi = some (rest, δ2) ∧ done ++ rest = ds, ⟨zs.length, by omega, Nat.zero_le _, S1, wipeD δ1 vs, [], [], ?_, ?_, ?_, n1, upd_same, .nil, Nat.zero_le _, ds, hrun, rfl⟩, ?_⟩
        · exact R1'.wipe (wipe_length σ vs) (fun j hj => wipe_out hj) fun xs e => noOwn_of hno e
        · refine ⟨s1'.s, s1'.out, s1'.keep, s1'.dom, fun i xs e => ?_, s1'.tb⟩
          by_cases hi : i ∈ vs
          · have hlt : i < δ1.length := by
              have := (List.getElem?_eq_some_iff.mp e).1
              rwa [wipeD_len] at this
            rw [wipeD_in hlt hi] at e; cases e
          · rw [wipeD_out hi] at e; exact ⟨xs, e⟩
        · intro j xs e hj
          have hlt : j < δ1.length := by
            have := (List.getElem?_eq_some_iff.mp e).1
            rwa [wipeD_len] at this
          rw [wipeD_in hlt hj] at e; cases e
        · rintro i m H' ⟨rfl, hi, S', δi, acc, done, Ri, si, noi, ni, hDi, da, hlen, rest, hr, hdone⟩
          have ownD : ∀ {τ : L2.St} {δx : DE} {b : Addr}, (∀ j, j ∉ vs → τ[j]? = σ[j]?) → (∀ (j : Nat) xs, δx[j]? = some (.ow xs) → (∃ ys, δi[j]? = some (.ow ys)) ∧ j ∉ vs) → Own τ δx b → Own σ δ1 b := fun {τ δx b} hτ hx o => by
            obtain ⟨j, xs, o1, o2⟩ := o
            obtain ⟨⟨ys, e1⟩, nj⟩ := hx j xs o1
            obtain ⟨ws, e2⟩ := si.kind j ys e1
            rw [hτ j nj] at o2
            exact ⟨j, ws, e2, o2⟩
          by_cases hlt : i < zs.length
          · refine .inr ⟨hJ.go i S' H' si.s Ri.sub hlt, fun H'' => ∃ m', m' < zs.length - i ∧ (m' = zs.length - (i + 1) ∧ i + 1 ≤ zs.length ∧ ∃ S' δi acc done, RSt K F S' H'' (wipe σ vs) δi ∧ Stp S1 H1 S' H'' σ δ1 δi ∧ (∀ (j : Nat) xs, δi[j]? = some (.ow xs) → j ∉ vs) ∧ S' Dl = none ∧ H'' Dl = some (.lst acc) ∧ DqAll S' acc done ∧ done.length ≤ i + 1 ∧
              ∃ rest, cRun gg tf f vs (zs.drop (i + 1)) δi = some (rest, δ2) ∧ done ++ rest = ds), fun H'' h => h, fun x H3 hy => ?_⟩
            obtain ⟨S3, g3, d3⟩ := hJ.yld i S' H' x H3 zs[i] si.s Ri.sub hy (List.getElem?_eq_getElem hlt)
            rw [List.drop_eq_getElem_cons hlt] at hr
            simp only [cRun] at hr
            split at hr
            · rename_i δa ga
              have R3 := Ri.grow g3
              have n3 : S3 Dl = none := (g3.out Dl _ hDi).trans ni
              have h3 : H3 Dl = some (.lst acc) := g3.h Dl _ hDi nt_lst
              refine ⟨S3, δi, zs[i], δa, R3, d3, ga, fun τ Rt lτ cτ oτ => ?_⟩
              rw [wipe_length] at lτ
              have cτ' : ∀ j, j ∉ vs → τ[j]? = σ[j]? := fun j hj => (cτ j hj).trans (wipe_out hj)
              have kA : ∀ (j : Nat) xs, δa[j]? = some (.ow xs) → (∃ ys, δi[j]? = some (.ow ys)) ∧ j ∉ vs := fun j xs e => ⟨⟨xs, (oτ j xs e).1⟩, (oτ j xs e).2⟩
              have s13 : Stp S1 H1 S3 H3 σ δ1 δi := si.trans' (Stp.grow g3 (σ := wipe σ vs) (δ := δi)) (fun b o => ownD (fun j hj => wipe_out hj) (fun j xs e => ⟨⟨xs, e⟩, noi j xs e⟩) o) si.kind
              refine ⟨wipe_eq lτ cτ', ?_⟩
              have nD : ∀ {δx : DE}, (∀ (j : Nat) xs, δx[j]? = some (.ow xs) → (∃ ys, δi[j]? = some (.ow ys)) ∧ j ∉ vs) → ¬ Own τ δx Dl := fun hx o => nownD (ownD cτ' hx o)
              split at hr
              · rename_i δb tb
                refine ⟨S3, δa, true, δb, Rt, tb, fun S4 H4 s4 R4 => ?_⟩
                show ite (true = true) _ _
                rw [if_pos rfl]
                have kB : ∀ (j : Nat) xs, δb[j]? = some (.ow xs) → (∃ ys, δi[j]? = some (.ow ys)) ∧ j ∉ vs := fun j xs e => by
                  obtain ⟨ys, e2⟩ := s4.kind j xs e
                  exact kA j ys e2
                have n4 : S4 Dl = none := (s4.out Dl _ h3).trans n3
                have h4 : H4 Dl = some (.lst acc) := s4.keep Dl _ h3 nt_lst (nD kA)
                have s14 : Stp S1 H1 S4 H4 σ δ1 δb := s13.trans' s4 (fun b o => ownD cτ' kA o) fun j xs e => by
                  obtain ⟨⟨ys, e2⟩, _⟩ := kB j xs e
                  exact si.kind j ys e2
                split at hr
                · rename_i y δc tc
                  refine ⟨S4, δb, y, δc, R4, tc, fun v S5 H5 s5 R5 d5 => ?_⟩
                  have kC : ∀ (j : Nat) xs, δc[j]? = some (.ow xs) → (∃ ys, δi[j]? = some (.ow ys)) ∧ j ∉ vs := fun j xs e => by
                    obtain ⟨ys, e2⟩ := s5.kind j xs e
                    exact kB j ys e2
                  have n5 : S5 Dl = none := (s5.out Dl _ h4).trans n4
                  have h5 : H5 Dl = some (.lst acc) := s5.keep Dl _ h4 nt_lst (nD kB)
                  have s15 : Stp S1 H1 S5 H5 σ δ1 δc := s14.trans' s5 (fun b o => ownD cτ' kB o) fun j xs e => by
                    obtain ⟨⟨ys, e2⟩, _⟩ := kC j xs e
                    exact si.kind j ys e2
                  split at hr
                  · rename_i ys δd tr
                    cases hr
                    have dacc : DqAll S5 acc done := dqa_ext (g3.s.trans (s4.s.trans s5.s)) da
                    have lacc := dqa_len dacc
                    refine ⟨acc, h5, Evl.sz_lt (by omega), zs.length - (i + 1), by omega, rfl, hlt, S5, wipeD δc vs, acc ++ [v], done ++ [y], ?_, ?_, ?_, n5, upd_same, dqa_app dacc (.cons d5 .nil), by rw [List.length_append]; simp only [List.length_singleton]; omega, ys, tr, by rw [← hdone, List.append_assoc]; rfl⟩
                    · exact (R5.free n5 h5 (nD kC) z1 z2).wipe (by rw [wipe_length, lτ]) (fun j hj => (wipe_out hj).trans (cτ' j hj).symm) fun xs e => (kC 0 xs e).2
                    · refine ⟨s15.s, s15.out, fun b o e nt n => ?_, fun b o e => ?_, fun j xs e => ?_, fun t => ⟨tabs_lst (s15.tb t).1 h5, (s15.tb t).2⟩⟩
                      · rw [upd_ne (fun z => by rw [z, hD] at e; cases e)]
                        exact s15.keep b o e nt n
                      · rw [upd_ne (fun z => by rw [z, hD] at e; cases e)]
                        exact s15.dom b o e
                      · obtain ⟨_, e2⟩ := wipe_ow e
                        exact s15.kind j xs e2
                    · exact fun j xs e => (wipe_ow e).1
                  · cases hr
                · cases hr
              · rename_i δb tb
                refine ⟨S3, δa, false, δb, Rt, tb, fun S4 H4 s4 R4 => ?_⟩
                show ite (false = true) _ _
                rw [if_neg Bool.false_ne_true]
                have kB : ∀ (j : Nat) xs, δb[j]? = some (.ow xs) → (∃ ys, δi[j]? = some (.ow ys)) ∧ j ∉ vs := fun j xs e => by
                  obtain ⟨ys, e2⟩ := s4.kind j xs e
                  exact kA j ys e2
                have n4 : S4 Dl = none := (s4.out Dl _ h3).trans n3
                have h4 : H4 Dl = some (.lst acc) := s4.keep Dl _ h3 nt_lst (nD kA)
                have s14 : Stp S1 H1 S4 H4 σ δ1 δb := s13.trans' s4 (fun b o => ownD cτ' kA o) fun j xs e => by
                  obtain ⟨⟨ys, e2⟩, _⟩ := kB j xs e
                  exact si.kind j ys e2
                refine ⟨zs.length - (i + 1), by omega, rfl, hlt, S4, wipeD δb vs, acc, done, ?_, ?_, ?_, n4, h4, dqa_ext (g3.s.trans s4.s) da, by omega, rest, hr, hdone⟩
                · exact R4.wipe (by rw [wipe_length, lτ]) (fun j hj => (wipe_out hj).trans (cτ' j hj).symm) fun xs e => (kB 0 xs e).2
                · refine ⟨s14.s, s14.out, s14.keep, s14.dom, fun j xs e => ?_, s14.tb⟩
                  obtain ⟨_, e2⟩ := wipe_ow e
                  exact s14.kind j xs e2
                · exact fun j xs e => (wipe_ow e).1
              · cases hr
            · cases hr
          · refine .inl ⟨hJ.stop i S' H' si.s Ri.sub (by omega), ?_⟩
            rw [List.drop_eq_nil_of_le (by omega)] at hr
            cases hr
            rw [List.append_nil] at hdone
            subst hdone
            have hl1 : δ2.length = δ1.length := by
              rw [← Ri.len, wipe_length, R1.len]
            have look : ∀ (j : Nat) s, (mergeD δ1 δ2 vs)[j]? = some s → (j ∈ vs ∧ δ1[j]? = some s) ∨ (j ∉ vs ∧ δ2[j]? = some s) := fun j s e => by
              have hlt : j < δ2.length := by
                have := (List.getElem?_eq_some_iff.mp e).1
                rwa [mergeD_len] at this
              by_cases hj : j ∈ vs
              · rw [mergeD_in hlt (by omega) hj] at e
                exact .inl ⟨hj, e⟩
              · rw [mergeD_out hj] at e
                exact .inr ⟨hj, e⟩
            refine q Dl acc S' H' ?_ ?_ hH ni hDi da
            · have sm : Stp S1 H1 S' H' σ δ1 (mergeD δ1 δ2 vs) := ⟨si.s, si.out, si.keep, si.dom, fun j xs e => by
                rcases look j _ e with ⟨hj, e2⟩ | ⟨hj, e2⟩
                · exact ⟨xs, e2⟩
                · exact si.kind j xs e2, si.tb⟩
              exact s1.trans sm
            · refine ⟨Ri.sub, Ri.base, Ri.dom0, Ri.tb0, Ri.s0, Ri.out, Ri.iop, by rw [mergeD_len, hl1, R1.len], fun j x s e1 e2 => ?_, fun j k a xs ys e1 e2 e3 e4 => ?_, fun a e => ?_⟩
              · rcases look j s e2 with ⟨hj, e3⟩ | ⟨hj, e3⟩
                · have q1 := R1.slot j x s e1 e3
                  cases s with
                  | no => trivial
                  | sh d =>
                    obtain ⟨v, w1, w2⟩ := q1
                    exact ⟨v, w1, dq_ext si.s w2⟩
                  | scr ns =>
                    obtain ⟨b, w1, w2⟩ := q1
                    exact ⟨b, w1, Evl.ex_l si.s w2⟩
                  | ow xs => exact absurd hj (noOwn_of hno e3)
                · exact Ri.slot j x s (by rw [wipe_out hj]; exact e1) e3
              · rcases look j _ e1 with ⟨hj, z⟩ | ⟨hj, f1⟩
                · exact absurd hj (noOwn_of hno z)
                · rcases look k _ e2 with ⟨hk, z⟩ | ⟨hk, f2⟩
                  · exact absurd hk (noOwn_of hno z)
                  · exact Ri.sep j k a xs ys f1 f2 (by rw [wipe_out hj]; exact e3) (by rw [wipe_out hk]; exact e4)
              · obtain ⟨p1, xs, p2⟩ := Ri.pin a e
                have n0 := noi 0 xs p2
                rw [wipe_out n0] at p1
                exact ⟨p1, xs, by rw [mergeD_out n0]; exact p2⟩
      · cases hf
    · cases hf
theorem e_lc' {own : List (Str × Nat)} {it : MA} {gg : MG} {elt iter : Expr} {ifs : List Expr} {scope : Scope} (hc : X.calm = true) (hN : X.N.Nodup) (hi : PI X tg iter (SI X.K F it)) (ok : BlkOk X.N X.env.scope scope own)
    (hg : ∀ (s : Shared) (H : Hp) (C : Addr) (cl : List (Str × Addr)) (fp : List Addr), PG (X.blk s H scope (compEnvC scope cl C X.env) fp) tg (SG X.K F (own.map (·.2)) gg)) (ht : ∀ (s : Shared) (H : Hp) (C : Addr) (cl : List (Str × Addr)) (fp : List Addr), PTs (X.blk s H scope (compEnvC scope cl C X.env) fp) ifs (ST X.K F tf))
    (he : ∀ (s : Shared) (H : Hp) (C : Addr) (cl : List (Str × Addr)) (fp : List Addr), PE (X.blk s H scope (compEnvC scope cl C X.env) fp) elt (SE X.K F f)) (hs : ∀ x, foldedSetIterable iter X.env x = pure x := by intro _; rfl) :
    PE X (.ListComp elt [⟨tg, iter, ifs, 0⟩] scope pos) (SF X.K F (lComp it gg tf f (own.map (·.2)))) :=
  pf_of fun S δ d δ' σ H Q R hf q => ⟨_, pe_lc hc hN hi ok hg ht he hs, lc_read R hf q⟩
end
end Sd

/-! Calls, statements, defs. -/
namespace Sd
open PySem PySem.Spec PyProof.Rows L2
open Evl (Ex)
variable [TabSet]
/-- what a def does: hands back a datum, or raises an error of a class of the text (perhaps with one int of its own) -/
inductive Res where
  | ret (d : D)
  | exc (c : Str) (p : Option (Str × Int))
abbrev MF := List D → Option Res
def ExcAt (mg : Str → Option Value) (E : XK) (S H : Hp) (c : Str) : Option (Str × Int) → Prop
  | none => ∀ S' H' cv, Grow S H S' H' → mg c = some cv → E cv none H'
  | some (a, i) => ∀ S' H' cv dd, Grow S H S' H' → mg c = some cv → H dd = none → H' dd = some (.xd [(a, .int i)]) → E cv (some dd) H'
def spF (mg : Str → Option Value) (m : MF) : Sp := fun vs H Q E => ∃ S ds r, Ex S H ∧ DqAll S vs ds ∧ m ds = some r ∧ match r with
  | .ret d => ∀ v S' H', Grow S H S' H' → Dq S' v d → Q v H'
  | .exc c p => ExcAt mg E S H c p
/-- a def whose first argument is a list that it changes -/
abbrev MC := List D → List D → Option (D × List D)
def spC (m : MC) : Sp := fun vs H Q _ => ∃ S a ws xs us ds d xs', vs = .ref a :: us ∧ Ex S H ∧ S a = none ∧ H a = some (.lst ws) ∧ DqAll S ws xs ∧ DqAll S us ds ∧ m xs ds = some (d, xs') ∧
  ∀ v S' H' ws', Ex S S' → Ex S' H' → (∀ b o, H b = some o → S' b = S b) → (∀ b o, H b = some o → (∀ ps, o ≠ .tbl ps) → b ≠ a → H' b = some o) → (∀ b o, H b = some o → ∃ o', H' b = some o') → (tabs S H → tabs S' H') → H' a = some (.lst ws') → DqAll S' ws' xs' → Dq S' v d → Q v H'
/-- a def of the text stands and keeps its promise -/
structure DefOk (P : Program) (w : World) (K : PySem.W.Frag) (mg : Str → Option Value) (base : Heap) (x : Str) (k : Nat) (sp : Sp) : Prop where
  ex : ∃ (f : Addr) (fd : FuncData) (ps : List Str), FnOk P w K mg base (L2.CX P w) k f fd ps sp ∧ mg x = some (.ref f) ∧ PySem.W.keepIn K (.ref f) = true ∧ Binds K fd ps []
theorem DefOk.mono {P : Program} {w : World} {K : PySem.W.Frag} {mg : Str → Option Value} {base : Heap} {x : Str} {j k : Nat} {sp : Sp} (h : DefOk P w K mg base x j sp) (l : j ≤ k) : DefOk P w K mg base x k sp :=
  let ⟨f, fd, ps, a, b, c, d⟩ := h.ex
  ⟨⟨f, fd, ps, a.mono l, b, c, d⟩⟩
section
variable {X : Cx} {F : Fr} {e a b c tg : Expr} {es : List Expr} {pos p : Pos} {f g h : M} {tf : MT} {fa : MA} {x : Str} {k : Nat}
omit [TabSet] in
def fCall (m : MF) (fa : MA) : M := fun δ => match fa δ with
  | some (ds, δ') => match m ds with
    | some (.ret d) => some (d, δ')
    | _ => none
  | none => none
theorem e_call {m : MF} (D0 : DefOk X.prog X.w X.K X.mg X.base x k (spF X.mg m)) (hr : Room k X.A) (ha : PA X (e :: es) (SA X.K F fa)) (hg : Gl X x := by rfl) (hdb : (x == ("__debug__" : Str)) = false := by decide)
    (he : starEach (e :: es) X.env = (false, eval e X.env) :: starEach es X.env := by rfl) (hpl : (backTo pos (starEach es X.env)).any (·.1) = false := by rfl) : PE X (.Call (.Name x p) (e :: es) [] pos) (SE X.K F (fCall m fa)) := by
  obtain ⟨fn, fd, ps, FO, hm, hk, hb⟩ := D0.ex
  refine pe_of fun S δ d δ' σ H Q R hf q => ⟨_, pe_call FO hr hg hm hk hb .nil passL ha hdb he hpl, ?_⟩
  unfold fCall at hf
  split at hf
  · rename_i ds δ1 h1
    split at hf
    · rename_i d0 h2
      cases hf
      refine ⟨S, δ, ds, _, R, h1, fun vs S1 H1 s1 R1 d1 => ?_⟩
      refine ⟨S1, ds, _, R1.sub, by rw [List.append_nil]; exact d1, h2, fun v S2 H2 g2 d2 => q v S2 H2 (s1.trans (Stp.grow g2)) (R1.grow g2) d2⟩
    · cases hf
  · cases hf
theorem e_call0 {m : MF} (D0 : DefOk X.prog X.w X.K X.mg X.base x k (spF X.mg m)) (hr : Room k X.A) (hg : Gl X x := by rfl) (hdb : (x == ("__debug__" : Str)) = false := by decide) : PE X (.Call (.Name x p) [] [] pos) (SE X.K F (fCall m aNil)) := by
  obtain ⟨fn, fd, ps, FO, hm, hk, hb⟩ := D0.ex
  refine pe_of fun S δ d δ' σ H Q R hf q => ⟨_, pe_call0 FO hr hg hm hk hb .nil passL hdb, ?_⟩
  unfold fCall aNil at hf
  simp only at hf
  split at hf
  · rename_i d0 h2
    cases hf
    exact ⟨S, [], _, R.sub, .nil, h2, fun v S2 H2 g2 d2 => q v S2 H2 (Stp.grow g2) (R.grow g2) d2⟩
  · cases hf
omit [TabSet] in
/-- the slot holds a list of its own -/
def isOw (δ : DE) (i : Nat) : Bool := match δ[i]? with
  | some (.ow _) => true
  | _ => false
theorem isOw_of {δ : DE} {i : Nat} (h : isOw δ i = true) : ∃ xs, δ[i]? = some (.ow xs) := by
  unfold isOw at h
  split at h
  · rename_i xs e
    exact ⟨xs, e⟩
  · cases h
omit [TabSet] in
/-- .. a list -/
def isLst (δ : DE) (i : Nat) : Bool := match δ[i]? with
  | some (.ow (.lst _)) => true
  | _ => false
theorem isLst_of {δ : DE} {i : Nat} (h : isLst δ i = true) : ∃ xs, δ[i]? = some (.ow (.lst xs)) := by
  unfold isLst at h
  split at h
  · rename_i xs e
    exact ⟨xs, e⟩
  · cases h
omit [TabSet] in
/-- the first argument: a list of one's own, lent -/
def fCallC (i : Nat) (m : MC) (fa : MA) : M := fun δ => if isOw δ i = true then match fa δ with
    | some (ds, δ1) => match δ1[i]? with
      | some (.ow (.lst xs)) => match m xs ds with
        | some (d, xs') => some (d, δ1.set i (.ow xs'))
        | none => none
      | _ => none
    | none => none
  else none
theorem RSt.lent {K : PySem.W.Frag} {S H S' H' : Hp} {σ : L2.St} {δ : DE} (R : RSt K F S H σ δ) {a : Addr} {i : Nat} {xs : Ob} {ys : List D} {ws : List V} (hd : δ[i]? = some (.ow xs)) (hs : σ[i]? = some (some (.ref a))) (exS : Ex S S') (sub : Ex S' H') (out : ∀ b o, H b = some o → S' b = S b)
    (keep : ∀ b o, H b = some o → (∀ ps, o ≠ .tbl ps) → b ≠ a → H' b = some o) (dom : ∀ b o, H b = some o → ∃ o', H' b = some o') (tb : tabs S H → tabs S' H') (ha : H' a = some (.lst ws)) (dw : DqAll S' ws ys) : RSt K F S' H' σ (δ.set i (.ow ys)) ∧ Stp S H S' H' σ δ (δ.set i (.ow ys)) := by
  obtain ⟨a', vs, e, e1, e2, e3, e4⟩ := R.slot i _ _ hs hd
  have e' : V.ref a = V.ref a' := Option.some.inj e
  cases e'
  have hl : i < δ.length := (List.getElem?_eq_some_iff.mp hd).1
  have look : ∀ (m : Nat) us, (δ.set i (.ow ys))[m]? = some (.ow us) → ∃ us', δ[m]? = some (.ow us') := fun m us g => by
    by_cases hm : i = m
    · subst hm; exact ⟨xs, hd⟩
    · rw [List.getElem?_set_ne hm] at g; exact ⟨us, g⟩
  refine ⟨⟨sub, fun b o h nt n => ?_, fun b o h => ?_, fun t => tb (R.tb0 t), R.s0.trans exS, fun b o h => ?_, fun b h => ?_, by rw [List.length_set]; exact R.len, fun j x s g1 g2 => ?_, fun j k b zs zs' g1 g2 g3 g4 => ?_, fun b h => ?_⟩, ⟨exS, out, fun b o h nt n => ?_, dom, fun j us g => look j us g, tb⟩⟩
  · refine keep b o (R.base b o h nt n) nt fun z => ?_
    subst z
    rcases e2 with z | z
    · rw [z] at h; cases h
    · exact n z
  · obtain ⟨o', h'⟩ := R.dom0 b o h
    exact dom b o' h'
  · obtain ⟨o', h'⟩ := R.dom0 b o h
    exact (out b o' h').trans (R.out b o h)
  · by_cases hb : b = a
    · subst hb; exact ⟨_, ha⟩
    · obtain ⟨o', h'⟩ := R.iop b h
      exact dom b o' h'
  · by_cases hj : i = j
    · subst hj
      rw [hs] at g1; cases g1
      rw [List.getElem?_set_self hl] at g2; cases g2
      exact ⟨a, .lst ws, rfl, (out a _ e3).trans e1, e2, ha, ob_lst dw⟩
    · rw [List.getElem?_set_ne hj] at g2
      have q := R.slot j x s g1 g2
      cases s with
      | no => trivial
      | sh d =>
        obtain ⟨v, w1, w2⟩ := q
        exact ⟨v, w1, dq_ext exS w2⟩
      | scr ns =>
        obtain ⟨b, w1, w2⟩ := q
        exact ⟨b, w1, Evl.ex_l exS w2⟩
      | ow zs =>
        obtain ⟨b, us, w0, w1, w2, w3, w4⟩ := q
        have hb : b ≠ a := fun z => by
          subst z
          rw [w0] at g1
          exact hj (R.sep i j b xs zs hd g2 hs g1)
        exact ⟨b, us, w0, (out b _ w3).trans w1, w2, keep b _ w3 (ob_nt w4) hb, ob_ext exS w4⟩
  · obtain ⟨u1, q1⟩ := look j _ g1
    obtain ⟨u2, q2⟩ := look k _ g2
    exact R.sep j k b u1 u2 q1 q2 g3 g4
  · obtain ⟨p1, us, p2⟩ := R.pin b h
    refine ⟨p1, ?_⟩
    by_cases hi : i = 0
    · subst hi
      exact ⟨.lst ys, List.getElem?_set_self hl⟩
    · rw [List.getElem?_set_ne hi]
      exact ⟨us, p2⟩
  · exact keep b o h nt fun z => n ⟨i, xs, hd, by rw [z]; exact hs⟩
theorem ob_addr {K : PySem.W.Frag} {S H : Hp} {σ : L2.St} {δ : DE} {i : Nat} {ob : Ob} (R : RSt K F S H σ δ) (hd : δ[i]? = some (.ow ob)) : ∃ a o, σ[i]? = some (some (.ref a)) ∧ S a = none ∧ H a = some o ∧ ObOk S o ob := by
  have hl : i < σ.length := by rw [R.len]; exact (List.getElem?_eq_some_iff.mp hd).1
  obtain ⟨a, o, e, e1, e2, e3, e4⟩ := R.slot i _ _ (List.getElem?_eq_getElem hl) hd
  exact ⟨a, o, by rw [List.getElem?_eq_getElem hl, e], e1, e3, e4⟩
theorem ow_addr {K : PySem.W.Frag} {S H : Hp} {σ : L2.St} {δ : DE} {i : Nat} {xs : List D} (R : RSt K F S H σ δ) (hd : δ[i]? = some (.ow (.lst xs))) : ∃ a vs, σ[i]? = some (some (.ref a)) ∧ S a = none ∧ H a = some (.lst vs) ∧ DqAll S vs xs := by
  obtain ⟨a, o, e, e1, e3, vs, rfl, e4⟩ := ob_addr R hd
  exact ⟨a, vs, e, e1, e3, e4⟩
theorem e_callC {m : MC} {i : Nat} {y : Str} {py : Pos} (D0 : DefOk X.prog X.w X.K X.mg X.base x k (spC m)) (hr : Room k X.A) (ha : PA X es (SA X.K F fa)) (hN : X.N[i]? = some y := by rfl) (hv : Vis X.env.scope y := by first | exact Or.inl rfl | exact Or.inr (Or.inl rfl) | exact Or.inr (Or.inr rfl)) (hg : Gl X x := by rfl) (hdb : (x == ("__debug__" : Str)) = false := by decide)
    (hdy : (y == ("__debug__" : Str)) = false := by decide) (hcy : (y == ("__classdict__" : Str)) = false := by decide)
    (he : starEach (.Name y py :: es) X.env = (false, eval (.Name y py) X.env) :: starEach es X.env := by rfl) (hpl : (backTo pos (starEach es X.env)).any (·.1) = false := by rfl) : PE X (.Call (.Name x p) (.Name y py :: es) [] pos) (SE X.K F (fCallC i m fa)) := by
  obtain ⟨fn, fd, ps, FO, hm, hk, hb⟩ := D0.ex
  refine pe_of fun S δ d δ' σ H Q R hf q => ⟨_, pe_call FO hr hg hm hk hb .nil passL (pa_cons (pe_var hN hv hdy hcy) ha he) hdb he hpl, ?_⟩
  unfold fCallC at hf
  split at hf
  · rename_i ho
    obtain ⟨zs, hz⟩ := isOw_of ho
    obtain ⟨a0, _, ea0, _⟩ := ob_addr R hz
    split at hf
    · rename_i ds δ1 h1
      split at hf
      · rename_i xs h2
        split at hf
        · rename_i d0 xs' h3
          cases hf
          refine ⟨.ref a0, ea0, S, δ, ds, δ1, R, h1, fun us S1 H1 s1 R1 d1 => ?_⟩
          obtain ⟨a, vs, w1, w2, w3, w4⟩ := ow_addr R1 h2
          rw [ea0] at w1
          cases w1
          refine ⟨S1, a0, vs, xs, us, ds, _, xs', by rw [List.append_nil], R1.sub, w2, w3, w4, d1, h3, fun v S2 H2 ws x1 x2 x3 x4 x8 x9 x5 x6 x7 => ?_⟩
          obtain ⟨R2, s2⟩ := R1.lent h2 ea0 x1 x2 x3 x4 x8 x9 x5 x6
          exact q v S2 H2 (s1.trans s2) R2 x7
        · cases hf
      · cases hf
    · cases hf
  · cases hf

/-! ### statements -/
inductive Out where
  | nx (δ : DE)
  | rt (d : D) (δ : DE)
  | bk (δ : DE)
  | ct (δ : DE)
  | ex (c : Str) (p : Option (Str × Int))
abbrev MS := DE → Option Out
def ExcW (mg : Str → Option Value) (F : Fr) (W : WX) (H : Hp) (c : Str) : Option (Str × Int) → L2.St → Prop
  | none, σ => ∀ cv, mg c = some cv → W cv none σ H
  | some (a, i), σ => ∀ cv dd, mg c = some cv → F.H0 dd = none → H dd = some (.xd [(a, .int i)]) → W cv (some dd) σ H
def OutP (K : PySem.W.Frag) (mg : Str → Option Value) (F : Fr) (W : WX) (Z : Ends) (S : Hp) : Out → Prop
  | .nx δ' => ∀ σ' S' H', Ex S S' → RSt K F S' H' σ' δ' → Z.nx σ' H'
  | .rt d δ' => ∀ v σ' S' H', Ex S S' → RSt K F S' H' σ' δ' → Dq S' v d → Z.rt v H'
  | .bk δ' => ∀ σ' S' H', Ex S S' → RSt K F S' H' σ' δ' → Z.bk σ' H'
  | .ct δ' => ∀ σ' S' H', Ex S S' → RSt K F S' H' σ' δ' → Z.ct σ' H'
  | .ex c p => ∀ σ' S' H' δ', Ex S S' → RSt K F S' H' σ' δ' → ExcW mg F W H' c p σ'
theorem out_ext {K : PySem.W.Frag} {mg : Str → Option Value} {W : WX} {S S1 : Hp} {o : Out} {Z : Ends} (x1 : Ex S S1) (q : OutP K mg F W Z S o) : OutP K mg F W Z S1 o := by
  cases o with
  | nx δ2 => exact fun σ2 S2 H2 x2 R2 => q σ2 S2 H2 (x1.trans x2) R2
  | rt d δ2 => exact fun v σ2 S2 H2 x2 R2 d2 => q v σ2 S2 H2 (x1.trans x2) R2 d2
  | bk δ2 => exact fun σ2 S2 H2 x2 R2 => q σ2 S2 H2 (x1.trans x2) R2
  | ct δ2 => exact fun σ2 S2 H2 x2 R2 => q σ2 S2 H2 (x1.trans x2) R2
  | ex c p => exact fun σ2 S2 H2 δ2 x2 R2 => q σ2 S2 H2 δ2 (x1.trans x2) R2
def SS (K : PySem.W.Frag) (mg : Str → Option Value) (F : Fr) (W : WX) (f : MS) : TS := fun Z σ H => ∃ S δ o, RSt K F S H σ δ ∧ f δ = some o ∧ OutP K mg F W Z S o
variable {W : WX} {fs gs : MS} {st : Stmt} {rest : List Stmt}
theorem ps_of {t : TS} (hp : PS X st t) (w : ∀ Z σ H, SS X.K X.mg F W fs Z σ H → t Z σ H) : PS X st (SS X.K X.mg F W fs) := ⟨fun pins s σ H Z I hw => hp.run pins s σ H Z I (w Z σ H hw)⟩
theorem pss_of {t : TS} {sts : List Stmt} (hp : PSs X sts t) (w : ∀ Z σ H, SS X.K X.mg F W fs Z σ H → t Z σ H) : PSs X sts (SS X.K X.mg F W fs) := ⟨fun pins s σ H Z I hw => hp.run pins s σ H Z I (w Z σ H hw)⟩
omit [TabSet] in
def sNil : MS := fun δ => some (.nx δ)
theorem s_nil : PSs X [] (SS X.K X.mg F W sNil) := pss_of pss_nil fun Z σ H hw => by
  obtain ⟨S, δ, o, R, hf, q⟩ := hw
  cases hf
  exact q σ S H (Ex.refl S) R
omit [TabSet] in
def sSeq (fs gs : MS) : MS := fun δ => match fs δ with
  | some (.nx δ') => gs δ'
  | o => o
theorem s_cons (h1 : PS X st (SS X.K X.mg F W fs)) (h2 : PSs X rest (SS X.K X.mg F W gs)) : PSs X (st :: rest) (SS X.K X.mg F W (sSeq fs gs)) := pss_of (pss_cons h1 h2) fun Z σ H hw => by
  obtain ⟨S, δ, o, R, hf, q⟩ := hw
  unfold sSeq at hf
  cases h1 : fs δ with
  | none => rw [h1] at hf; cases hf
  | some o1 =>
    rw [h1] at hf
    cases o1 with
    | nx δ1 =>
      exact ⟨S, δ, _, R, h1, fun σ1 S1 H1 x1 R1 => ⟨S1, δ1, o, R1, hf, out_ext x1 q⟩⟩
    | _ =>
      cases hf
      exact ⟨S, δ, _, R, h1, q⟩
theorem s_one (h1 : PS X st (SS X.K X.mg F W fs)) : PSs X [st] (SS X.K X.mg F W (sSeq fs sNil)) := s_cons h1 s_nil
omit [TabSet] in
/-- name = e -/
def sSet (i : Nat) (f : M) : MS := fun δ => match f δ with
  | some (d, δ1) => if free0 i δ1 = true then some (.nx (δ1.set i (.sh d))) else none
  | none => none
theorem s_set {i : Nat} {pos' : Pos} (hN : X.N.Nodup) (he : PE X e (SE X.K F f)) (hi : X.N[i]? = some x := by rfl) (hx : Loc X.env.scope x := by first | exact Or.inl rfl | exact Or.inr rfl) (hs : swapsWith e (some (.Name x pos')) pos.line X.env = pure false := by rfl)
    (hf : X.fn x = true ∨ X.env.scope.names.lookup x = some .local := by first | exact .inl rfl | exact .inr rfl) : PS X (.Assign [.Name x pos'] e pos) (SS X.K X.mg F W (sSet i f)) := ps_of (ps_set hN hi hx he hs hf) fun Z σ H hw => by
  obtain ⟨S, δ, o, R, hf, q⟩ := hw
  unfold sSet at hf
  split at hf
  · rename_i d δ1 h1
    split at hf
    · rename_i h0
      cases hf
      exact ⟨S, δ, d, δ1, R, h1, fun v S1 H1 s1 R1 d1 => q _ S1 H1 s1.s (R1.set_sh d1 i (free0_of h0))⟩
    · cases hf
  · cases hf
omit [TabSet] in
/-- name = a new list, kept as one's own -/
def sSetO (i : Nat) (ff : MA) : MS := fun δ => match ff δ with
  | some (ds, δ1) => if free0 i δ1 = true then some (.nx (δ1.set i (.ow ds))) else none
  | none => none
theorem own_new {K : PySem.W.Frag} {S H S1 H1 : Hp} {σ : L2.St} {δ δ1 : DE} {a : Addr} (R : RSt K F S H σ δ) (s1 : Stp S H S1 H1 σ δ δ1) (hH : H a = none) : F.H0 a = none ∧ F.io ≠ some a ∧ ¬ Own σ δ1 a := by
  obtain ⟨z1, z2⟩ := R.frz hH
  refine ⟨z1, z2, fun o => ?_⟩
  obtain ⟨us, q, _⟩ := R.own_in (s1.own o)
  rw [hH] at q; cases q
theorem s_setO {i : Nat} {pos' : Pos} {ff : MA} (hN : X.N.Nodup) (he : PE X e (SF X.K F ff)) (hi : X.N[i]? = some x := by rfl) (hx : Loc X.env.scope x := by first | exact Or.inl rfl | exact Or.inr rfl) (hs : swapsWith e (some (.Name x pos')) pos.line X.env = pure false := by rfl)
    (hf : X.fn x = true ∨ X.env.scope.names.lookup x = some .local := by first | exact .inl rfl | exact .inr rfl) : PS X (.Assign [.Name x pos'] e pos) (SS X.K X.mg F W (sSetO i ff)) := ps_of (ps_set hN hi hx he hs hf) fun Z σ H hw => by
  obtain ⟨S, δ, o, R, hf, q⟩ := hw
  unfold sSetO at hf
  split at hf
  · rename_i d δ1 h1
    split at hf
    · rename_i h0
      cases hf
      refine ⟨S, δ, d, δ1, R, h1, fun a vs S1 H1 s1 R1 n0 n1 e1 d1 => ?_⟩
      obtain ⟨z1, z2, z3⟩ := own_new R s1 n0
      exact q _ S1 H1 s1.s (R1.set_ow n1 (.inl z1) e1 (ob_lst d1) z3 i (free0_of h0))
    · cases hf
  · cases hf
/-- name = [.. for ..] -/
theorem s_lc {i : Nat} {py : Pos} {own : List (Str × Nat)} {it : MA} {gg : MG} {elt iter : Expr} {ifs : List Expr} {scope : Scope} {spos : Pos} (hc : X.calm = true) (hN : X.N.Nodup) (hi : PI X tg iter (SI X.K F it)) (ok : BlkOk X.N X.env.scope scope own)
    (hg : ∀ (s : Shared) (H : Hp) (C : Addr) (cl : List (Str × Addr)) (fp : List Addr), PG (X.blk s H scope (compEnvC scope cl C X.env) fp) tg (SG X.K F (own.map (·.2)) gg)) (ht : ∀ (s : Shared) (H : Hp) (C : Addr) (cl : List (Str × Addr)) (fp : List Addr), PTs (X.blk s H scope (compEnvC scope cl C X.env) fp) ifs (ST X.K F tf))
    (he : ∀ (s : Shared) (H : Hp) (C : Addr) (cl : List (Str × Addr)) (fp : List Addr), PE (X.blk s H scope (compEnvC scope cl C X.env) fp) elt (SE X.K F f)) (hy : X.N[i]? = some x := by rfl) (hyl : X.env.scope.names.lookup x = some .local := by rfl)
    (hsw : swapsWith (.ListComp elt [⟨tg, iter, ifs, 0⟩] scope pos) (some (.Name x py)) spos.line X.env = pure true := by exact sw_true rfl rfl rfl (by decide +kernel)) (hs : ∀ x, foldedSetIterable iter X.env x = pure x := by intro _; rfl) :
    PS X (.Assign [.Name x py] (.ListComp elt [⟨tg, iter, ifs, 0⟩] scope pos) spos) (SS X.K X.mg F W (sSet i (fList (lComp it gg tf f (own.map (·.2)))))) :=
  ps_of (ps_setLc hc hN hy hyl hsw hi ok hg ht he hs) fun Z σ H hw => by
    obtain ⟨S, δ, o, R, hf, q⟩ := hw
    unfold sSet fList at hf
    cases h1 : lComp it gg tf f (own.map (·.2)) δ with
    | none => rw [h1] at hf; cases hf
    | some p =>
      obtain ⟨ds, δ1⟩ := p
      rw [h1] at hf
      simp only at hf
      split at hf
      · rename_i h0
        cases hf
        refine lc_read R h1 fun a us S1 H1 s1 R1 n0 n1 e1 d1 => ?_
        obtain ⟨R2, s2⟩ := share_fresh R s1 R1 n0 n1 e1
        exact q _ _ H1 s2.s (R2.set_sh (.lst upd_same (dqa_ext (Ex.new n1) d1)) i (free0_of h0))
      · cases hf
theorem s_lcO {i : Nat} {py : Pos} {own : List (Str × Nat)} {it : MA} {gg : MG} {elt iter : Expr} {ifs : List Expr} {scope : Scope} {spos : Pos} (hc : X.calm = true) (hN : X.N.Nodup) (hi : PI X tg iter (SI X.K F it)) (ok : BlkOk X.N X.env.scope scope own)
    (hg : ∀ (s : Shared) (H : Hp) (C : Addr) (cl : List (Str × Addr)) (fp : List Addr), PG (X.blk s H scope (compEnvC scope cl C X.env) fp) tg (SG X.K F (own.map (·.2)) gg)) (ht : ∀ (s : Shared) (H : Hp) (C : Addr) (cl : List (Str × Addr)) (fp : List Addr), PTs (X.blk s H scope (compEnvC scope cl C X.env) fp) ifs (ST X.K F tf))
    (he : ∀ (s : Shared) (H : Hp) (C : Addr) (cl : List (Str × Addr)) (fp : List Addr), PE (X.blk s H scope (compEnvC scope cl C X.env) fp) elt (SE X.K F f)) (hy : X.N[i]? = some x := by rfl) (hyl : X.env.scope.names.lookup x = some .local := by rfl)
    (hsw : swapsWith (.ListComp elt [⟨tg, iter, ifs, 0⟩] scope pos) (some (.Name x py)) spos.line X.env = pure true := by exact sw_true rfl rfl rfl (by decide +kernel)) (hs : ∀ x, foldedSetIterable iter X.env x = pure x := by intro _; rfl) :
    PS X (.Assign [.Name x py] (.ListComp elt [⟨tg, iter, ifs, 0⟩] scope pos) spos) (SS X.K X.mg F W (sSetO i (lComp it gg tf f (own.map (·.2))))) :=
  ps_of (ps_setLc hc hN hy hyl hsw hi ok hg ht he hs) fun Z σ H hw => by
    obtain ⟨S, δ, o, R, hf, q⟩ := hw
    unfold sSetO at hf
    split at hf
    · rename_i d δ1 h1
      split at hf
      · rename_i h0
        cases hf
        refine lc_read R h1 fun a us S1 H1 s1 R1 n0 n1 e1 d1 => ?_
        obtain ⟨z1, z2, z3⟩ := own_new R s1 n0
        exact q _ S1 H1 s1.s (R1.set_ow n1 (.inl z1) e1 (ob_lst d1) z3 i (free0_of h0))
      · cases hf
    · cases hf
omit [TabSet] in
/-- a, b = e1, e2 -/
def sPar (i j : Nat) (fa : MA) : MS := fun δ => match fa δ with
  | some ([d, d'], δ1) => if free0 i δ1 = true ∧ free0 j δ1 = true then some (.nx ((δ1.set i (.sh d)).set j (.sh d'))) else none
  | _ => none
theorem free0_set {i j : Nat} {δ : DE} {d : D} (h : free0 j δ = true) : free0 j (δ.set i (.sh d)) = true := by
  cases j with
  | succ j => rfl
  | zero =>
    have h' := free0_of h rfl
    unfold free0
    split
    · rename_i xs e
      exact absurd (set_ow e).1 (h' _)
    · rfl
theorem s_par {i j : Nat} {y : Str} {px py pt : Pos} {kt k2 pt2} (hc : X.calm = true) (hN : X.N.Nodup) (ha : PA X [a, b] (SA X.K F fa)) (hw : swappedStores [.Tuple [.Name x px, .Name y py] kt pt] (.Tuple [a, b] k2 pt2) X.env = pure (some [x, y])) (hi : X.N[i]? = some x := by rfl) (hj : X.N[j]? = some y := by rfl) (hij : i ≠ j := by decide)
    (hx : X.env.scope.names.lookup x = some .local := by rfl) (hy : X.env.scope.names.lookup y = some .local := by rfl) (hs : swapsWithSole [.Tuple [.Name x px, .Name y py] kt pt] (.Tuple [a, b] k2 pt2) pos.line X.env = pure false := by rfl) :
    PS X (.Assign [.Tuple [.Name x px, .Name y py] kt pt] (.Tuple [a, b] k2 pt2) pos) (SS X.K X.mg F W (sPar i j fa)) := ps_of (ps_par hc hN hi hj hij hx hy ha hw hs) fun Z σ H hw => by
  obtain ⟨S, δ, o, R, hf, q⟩ := hw
  unfold sPar at hf
  split at hf
  · rename_i d d' δ1 h1
    split at hf
    · rename_i h0
      cases hf
      refine ⟨S, δ, _, _, R, h1, fun vs S1 H1 s1 R1 d1 => ?_⟩
      cases d1 with
      | cons e1 t1 =>
        cases t1 with
        | cons e2 t2 =>
          cases t2
          exact ⟨_, _, rfl, q _ S1 H1 s1.s ((R1.set_sh e1 i (free0_of h0.1)).set_sh e2 j (free0_of (free0_set h0.2)))⟩
    · cases hf
  · cases hf
omit [TabSet] in
/-- targets that are names, in a tuple -/
def sAsg (g : MG) (f : M) : MS := fun δ => match f δ with
  | some (d, δ1) => match g d δ1 with
    | some δ2 => some (.nx δ2)
    | none => none
  | none => none
theorem s_asg {vs : List Nat} {gg : MG} (he : PE X e (SE X.K F f)) (hg : PG X tg (SG X.K F vs gg)) (hs : swapsWithSole [tg] e pos.line X.env = pure false := by rfl) (hw : swappedStores [tg] e X.env = pure none := by rfl) (h1 : (assignEach [tg] X.env).map (·.2) = [assign tg X.env] := by rfl) :
    PS X (.Assign [tg] e pos) (SS X.K X.mg F W (sAsg gg f)) := ps_of (ps_asg he hg hs hw h1) fun Z σ H hw => by
  obtain ⟨S, δ, o, R, hf, q⟩ := hw
  unfold sAsg at hf
  split at hf
  · rename_i d δ1 k1
    split at hf
    · rename_i δ2 k2
      cases hf
      exact ⟨S, δ, d, δ1, R, k1, fun v S1 H1 s1 R1 d1 => ⟨S1, δ1, d, δ2, R1, d1, k2, fun σ' R' _ _ _ => q σ' S1 H1 s1.s R'⟩⟩
    · cases hf
  · cases hf
omit [TabSet] in
/-- if -/
def sIf (tf : MT) (fs gs : MS) : MS := fun δ => match tf δ with
  | some (true, δ1) => fs δ1
  | some (false, δ1) => gs δ1
  | none => none
theorem s_if {sa sb : List Stmt} (hc : PT X c (ST X.K F tf)) (ha : PSs X sa (SS X.K X.mg F W fs)) (hb : PSs X sb (SS X.K X.mg F W gs)) : PS X (.If c sa sb pos) (SS X.K X.mg F W (sIf tf fs gs)) := ps_of (ps_if hc ha hb) fun Z σ H hw => by
  obtain ⟨S, δ, o, R, hf, q⟩ := hw
  unfold sIf at hf
  cases h1 : tf δ with
  | none => rw [h1] at hf; cases hf
  | some p =>
    obtain ⟨k1, δ1⟩ := p
    rw [h1] at hf
    refine ⟨S, δ, k1, δ1, R, h1, fun S1 H1 s1 R1 => ?_⟩
    cases k1 with
    | true => exact ⟨S1, δ1, o, R1, hf, out_ext s1.s q⟩
    | false => exact ⟨S1, δ1, o, R1, hf, out_ext s1.s q⟩
omit [TabSet] in
/-- return -/
def sRet (f : M) : MS := fun δ => match f δ with
  | some (d, δ1) => some (.rt d δ1)
  | none => none
theorem s_ret (he : PE X e (SE X.K F f)) : PS X (.Return (some e) pos) (SS X.K X.mg F W (sRet f)) := ps_of (ps_ret he) fun Z σ H hw => by
  obtain ⟨S, δ, o, R, hf, q⟩ := hw
  unfold sRet at hf
  split at hf
  · rename_i d δ1 h1
    cases hf
    exact ⟨S, δ, d, δ1, R, h1, fun v S1 H1 s1 R1 d1 => q v σ S1 H1 s1.s R1 d1⟩
  · cases hf
omit [TabSet] in
/-- return of a list that was one's own -/
def sRetO (i : Nat) : MS := fun δ => match δ[i]? with
  | some (.ow (.lst xs)) => if i ≠ 0 then some (.rt (.list xs) (δ.set i (.sh (.list xs)))) else none
  | _ => none
theorem s_retO {i : Nat} {py : Pos} (hN : X.N[i]? = some x := by rfl) (hv : Vis X.env.scope x := by first | exact Or.inl rfl | exact Or.inr (Or.inl rfl) | exact Or.inr (Or.inr rfl)) (hd : (x == ("__debug__" : Str)) = false := by decide)
    (hcd : (x == ("__classdict__" : Str)) = false := by decide) : PS X (.Return (some (.Name x py)) pos) (SS X.K X.mg F W (sRetO i)) := ps_of (ps_ret (pe_var hN hv hd hcd)) fun Z σ H hw => by
  obtain ⟨S, δ, o, R, hf, q⟩ := hw
  unfold sRetO at hf
  split at hf
  · rename_i xs h1
    split at hf
    · rename_i h0
      cases hf
      obtain ⟨a, vs, S1, w1, w2, w3, rfl, w5, w6, R1⟩ := R.give h1 h0
      exact ⟨.ref a, w1, q _ σ _ H w3 R1 (.lst upd_same (dqa_ext w3 w5))⟩
    · cases hf
  · cases hf
omit [TabSet] in
def sRetN : MS := fun δ => some (.rt .none δ)
theorem s_retN : PS X (.Return none pos) (SS X.K X.mg F W sRetN) := ps_of ps_retN fun Z σ H hw => by
  obtain ⟨S, δ, o, R, hf, q⟩ := hw
  cases hf
  exact q .non σ S H (Ex.refl S) R .non
omit [TabSet] in
/-- a list of one's own is given to all: no statement, a way to read on -/
def sPass : MS := fun δ => some (.nx δ)
theorem s_pass : PS X (.Pass pos) (SS X.K X.mg F W sPass) := ps_of ps_pass fun Z σ H hw => by
  obtain ⟨S, δ, o, R, hf, q⟩ := hw
  cases hf
  exact q σ S H (Ex.refl S) R
omit [TabSet] in
def sBrk : MS := fun δ => some (.bk δ)
theorem s_brk : PS X (.Break pos) (SS X.K X.mg F W sBrk) := ps_of ps_break fun Z σ H hw => by
  obtain ⟨S, δ, o, R, hf, q⟩ := hw
  cases hf
  exact q σ S H (Ex.refl S) R
omit [TabSet] in
def sCnt : MS := fun δ => some (.ct δ)
theorem s_cnt : PS X (.Continue pos) (SS X.K X.mg F W sCnt) := ps_of ps_continue fun Z σ H hw => by
  obtain ⟨S, δ, o, R, hf, q⟩ := hw
  cases hf
  exact q σ S H (Ex.refl S) R
omit [TabSet] in
/-- a call that may raise, its value dropped -/
def sCall (m : MF) (fa : MA) : MS := fun δ => match fa δ with
  | some (ds, δ') => match m ds with
    | some (.ret _) => some (.nx δ')
    | some (.exc c p) => some (.ex c p)
    | none => none
  | none => none
theorem s_call {m : MF} (tk : Takes X W) (D0 : DefOk X.prog X.w X.K X.mg X.base x k (spF X.mg m)) (hr : Room k X.A) (ha : PA X (e :: es) (SA X.K F fa)) (hg : Gl X x := by rfl) (hdb : (x == ("__debug__" : Str)) = false := by decide)
    (he : starEach (e :: es) X.env = (false, eval e X.env) :: starEach es X.env := by rfl) (hpl : (backTo pos (starEach es X.env)).any (·.1) = false := by rfl) {pos2 : Pos} (hs : swapsWith (.Call (.Name x p) (e :: es) [] pos) none pos2.line X.env = pure false := by rfl) :
    PS X (.Expr (.Call (.Name x p) (e :: es) [] pos) pos2) (SS X.K X.mg F W (sCall m fa)) := by
  obtain ⟨fn, fd, ps, FO, hm, hk, hb⟩ := D0.ex
  refine ps_of (ps_expr (pe_callS FO hr hg hm hk hb (fun σ => passAt tk σ) ha hdb he hpl) hs) fun Z σ H hw => ?_
  obtain ⟨S, δ, o, R, hf, q⟩ := hw
  unfold sCall at hf
  split at hf
  · rename_i ds δ1 h1
    refine ⟨S, δ, ds, δ1, R, h1, fun vs S1 H1 s1 R1 d1 => ?_⟩
    split at hf
    · rename_i d h2
      cases hf
      exact ⟨S1, ds, _, R1.sub, d1, h2, fun v S2 H2 g2 _ => q σ S2 H2 (s1.s.trans g2.s) (R1.grow g2)⟩
    · rename_i c p h2
      cases hf
      refine ⟨S1, ds, _, R1.sub, d1, h2, ?_⟩
      cases p with
      | none => exact fun S2 H2 cv g2 hc => q σ S2 H2 _ (s1.s.trans g2.s) (R1.grow g2) cv hc
      | some p => exact fun S2 H2 cv dd g2 hc h0 hdd => q σ S2 H2 _ (s1.s.trans g2.s) (R1.grow g2) cv dd hc (R1.frz h0).1 hdd
    · cases hf
  · cases hf
/-- an error class of the text, over ValueError, without an __init__ of its own -/
structure ExcOk (K : PySem.W.Frag) (mg : Str → Option Value) (c : Str) : Prop where
  ex : ∃ C, mg c = some (.ref C) ∧ PySem.W.excIn K C [.type "ValueError", .type "Exception", .type "BaseException", .type "object"] "ValueError.__new__" = true ∧ PySem.W.keepIn K (.ref C) = true ∧
    PySem.W.subIn K (.ref C) (.type "BaseException") = some true ∧ PySem.W.typeIn K (.ref C) = some (.type "type")
omit [TabSet] in
def sRaise (c : Str) : MS := fun _ => some (.ex c none)
theorem s_raise {m : Str} {j : Nat} {p2 pos2 : Pos} (hc : X.calm = true) (tk : Takes X W) (E0 : ExcOk X.K X.mg x) (hg : Gl X x := by rfl) (hdb : (x == ("__debug__" : Str)) = false := by decide) :
    PS X (.Raise (some (.Call (.Name x p) [.Constant (.str m) j p2] [] pos)) none pos2) (SS X.K X.mg F W (sRaise x)) := by
  obtain ⟨C, h1, h2, h3, h4, h5⟩ := E0.ex
  refine ps_of (ps_raise hc tk (pmk_own PySem.F.excBase_ValueError h2 h1 h3 (raises_own h4 h5) hg hdb)) fun Z σ H hw => ?_
  obtain ⟨S, δ, o, R, hf, q⟩ := hw
  cases hf
  exact q σ S H δ (Ex.refl S) R _ h1

/-! ### lists of one's own, changed -/
omit [TabSet] in
/-- xs[i] = e -/
def sStO (i : Nat) (pf : PF) (f : M) : MS := fun δ => match f δ with
  | some (d, δ1) => match pf δ1 with
    | some (.int j) => match δ1[i]? with
      | some (.ow (.lst xs)) => match ixN xs.length j with
        | some k => some (.nx (δ1.set i (.ow (xs.set k d))))
        | none => none
      | _ => none
    | _ => none
  | none => none
variable {pf pg : PF}
/-- the targets that are places in a list of one's own -/
def SGh (K : PySem.W.Frag) (F : Fr) (g : MG) : TG := fun v σ H Q => ∃ S δ d δ', RSt K F S H σ δ ∧ Dq S v d ∧ g d δ = some δ' ∧ ∀ σ' S' H', Ex S S' → RSt K F S' H' σ' δ' → Q σ' H'
def SGhs (K : PySem.W.Frag) (F : Fr) (g : MGs) : TGs := fun v σ H Q => ∃ S δ d δ', RSt K F S H σ δ ∧ DqAll S v d ∧ g d δ = some δ' ∧ ∀ σ' S' H', Ex S S' → RSt K F S' H' σ' δ' → Q σ' H'
theorem pgh_of {gg : MG} {t : TG} (hp : PG X tg t) (w : ∀ v σ H Q, SGh X.K F gg v σ H Q → t v σ H Q) : PG X tg (SGh X.K F gg) := ⟨fun pins s σ H v u Q I r hw => hp.run pins s σ H v u Q I r (w v σ H Q hw)⟩
theorem pghs_of {gg : MGs} {t : TGs} (hp : PGs X es t) (w : ∀ v σ H Q, SGhs X.K F gg v σ H Q → t v σ H Q) : PGs X es (SGhs X.K F gg) := ⟨fun pins s σ H v u Q I r hw => hp.run pins s σ H v u Q I r (w v σ H Q hw)⟩
omit [TabSet] in
def gSubO (i : Nat) (pf : PF) : MG := fun d δ => match pf δ with
  | some (.int j) => match δ[i]? with
    | some (.ow (.lst xs)) => match ixN xs.length j with
      | some k => some (δ.set i (.ow (xs.set k d)))
      | none => none
    | _ => none
  | _ => none
theorem gh_sub {i : Nat} {py : Pos} (hb : PE X b (SP X.K F pf)) (hN : X.N[i]? = some x := by rfl) (hv : Vis X.env.scope x := by first | exact Or.inl rfl | exact Or.inr (Or.inl rfl) | exact Or.inr (Or.inr rfl)) (hd : (x == ("__debug__" : Str)) = false := by decide)
    (hcd : (x == ("__classdict__" : Str)) = false := by decide) (ha : ∀ v, assign (.Subscript (.Name x py) b pos) X.env v = (do
      let ov ← holding [v] (eval (.Name x py) X.env)
      let iv ← holding [v, ov] (eval b X.env)
      standAt pos
      holding [v, ov, iv] (setItem ov iv v)
      release [v, ov, iv] []) := by intro _; rfl) : PG X (.Subscript (.Name x py) b pos) (SGh X.K F (gSubO i pf)) :=
  pgh_of (pg_sub (pe_var hN hv hd hcd) hb set_list ha) fun v σ H Q hw => by
    obtain ⟨S, δ, d, δ', R, dv, hg, q⟩ := hw
    unfold gSubO at hg
    split at hg
    · rename_i j h1
      split at hg
      · rename_i xs h2
        split at hg
        · rename_i k h3
          cases hg
          obtain ⟨a, vs, w1, w2, w3, w4⟩ := ow_addr R h2
          refine ⟨.ref a, w1, S, δ, _, R, h1, fun u S1 H1 g1 d1 => ?_⟩
          have R1 := R.grow g1
          obtain ⟨a', vs', w1', w2', w3', w4'⟩ := ow_addr R1 h2
          rw [w1] at w1'
          cases w1'
          refine ⟨a, vs', j, k, rfl, dq_int d1, w3', by rw [dqa_len w4']; exact h3, ?_⟩
          exact q σ S1 _ g1.s (R1.mut h2 w1 (dqa_set (dq_ext g1.s dv) k w4'))
        · cases hg
      · cases hg
    · cases hg
theorem gh_of {vs : List Nat} {gg : MG} (h : PG X tg (SG X.K F vs gg)) : PG X tg (SGh X.K F gg) := pgh_of h fun v σ H Q hw => by
  obtain ⟨S, δ, d, δ', R, dv, hg, q⟩ := hw
  exact ⟨S, δ, d, δ', R, dv, hg, fun σ' R' _ _ _ => q σ' S H (Ex.refl S) R'⟩
theorem ghs_nil : PGs X [] (SGhs X.K F gsNil) := pghs_of pgs_nil fun us σ H Q hw => by
  obtain ⟨S, δ, d, δ', R, dv, hg, q⟩ := hw
  cases dv with
  | nil =>
    cases hg
    exact ⟨rfl, q σ S H (Ex.refl S) R⟩
  | cons _ _ => cases hg
theorem ghs_cons {gg : MG} {gs' : MGs} (h1 : PG X e (SGh X.K F gg)) (h2 : PGs X es (SGhs X.K F gs')) (hs : (assignEach (e :: es) X.env).map (·.2) = assign e X.env :: (assignEach es X.env).map (·.2) := by rfl) : PGs X (e :: es) (SGhs X.K F (gsCons gg gs')) :=
  pghs_of (pgs_cons h1 h2 hs) fun us σ H Q hw => by
    obtain ⟨S, δ, d, δ', R, dv, hg, q⟩ := hw
    cases dv with
    | nil => cases hg
    | cons a1 r1 =>
      simp only [gsCons] at hg
      split at hg
      · rename_i δ1 k1
        exact ⟨_, _, rfl, S, δ, _, δ1, R, a1, k1, fun σ1 S1 H1 x1 R1 => ⟨S1, δ1, _, δ', R1, dqa_ext x1 r1, hg, fun σ2 S2 H2 x2 R2 => q σ2 S2 H2 (x1.trans x2) R2⟩⟩
      · cases hg
theorem gh_tup {n k : Nat} {gs' : MGs} (hc : X.calm = true) (h : PGs X es (SGhs X.K F gs')) (hl : ∀ ds δ δ', gs' ds δ = some δ' → ds.length = n) (hn : (assignEach es X.env).length = n := by rfl) (hst : (assignEach es X.env).findIdx? (·.1) = none := by rfl) : PG X (.Tuple es k pos) (SGh X.K F (gT gs')) :=
  pgh_of (pg_tup hc h hn hst) fun v σ H Q hw => by
    obtain ⟨S, δ, d, δ', R, dv, hg, q⟩ := hw
    unfold gT at hg
    split at hg
    · obtain ⟨p1, v1, rfl, e1, d1⟩ := dq_tup dv
      exact ⟨p1, v1, rfl, Tp.sq (Tp.ext R.sub e1), by rw [dqa_len d1]; exact hl _ _ _ hg, S, δ, _, δ', R, d1, hg, q⟩
    · obtain ⟨p1, v1, rfl, e1, d1⟩ := dq_wt dv
      exact ⟨p1, v1, rfl, SqT.of (R.sub _ _ e1), by rw [dqa_len d1]; exact hl _ _ _ hg, S, δ, _, δ', R, d1, hg, q⟩
    · cases hg
theorem s_asgh {gg : MG} (he : PE X e (SE X.K F f)) (hg : PG X tg (SGh X.K F gg)) (hs : swapsWithSole [tg] e pos.line X.env = pure false := by rfl) (hw : swappedStores [tg] e X.env = pure none := by rfl) (h1 : (assignEach [tg] X.env).map (·.2) = [assign tg X.env] := by rfl) :
    PS X (.Assign [tg] e pos) (SS X.K X.mg F W (sAsg gg f)) := ps_of (ps_asg he hg hs hw h1) fun Z σ H hw => by
  obtain ⟨S, δ, o, R, hf, q⟩ := hw
  unfold sAsg at hf
  split at hf
  · rename_i d δ1 k1
    split at hf
    · rename_i δ2 k2
      cases hf
      exact ⟨S, δ, d, δ1, R, k1, fun v S1 H1 s1 R1 d1 => ⟨S1, δ1, d, δ2, R1, d1, k2, fun σ' S2 H2 x2 R2 => q σ' S2 H2 (s1.s.trans x2) R2⟩⟩
    · cases hf
  · cases hf
omit [TabSet] in
/-- xs.append(e) -/
def sApp (i : Nat) (f : M) : MS := fun δ => if isLst δ i = true then match f δ with
    | some (d, δ1) => match δ1[i]? with
      | some (.ow (.lst xs)) => if xs.length < 100000 then some (.nx (δ1.set i (.ow (xs ++ [d])))) else none
      | _ => none
    | none => none
  else none
theorem s_app {i : Nat} {py apos pos2 : Pos} (ha : PE X a (SE X.K F f)) (hN : X.N[i]? = some x := by rfl) (hv : Vis X.env.scope x := by first | exact Or.inl rfl | exact Or.inr (Or.inl rfl) | exact Or.inr (Or.inr rfl)) (hd : (x == ("__debug__" : Str)) = false := by decide)
    (hcd : (x == ("__classdict__" : Str)) = false := by decide) (he : starEach (a :: []) X.env = (false, eval a X.env) :: starEach [] X.env := by rfl) (hbase : attributeBase (.Name x py) "append" X.env (eval (.Name x py) X.env) = eval (.Name x py) X.env := by rfl)
    (hfew : ((backTo pos (starEach (a :: []) X.env)).all (fun x => !x.1) && (backToKw pos (keywordEach [] X.env)).all (fun x => x.1.isSome)
      && decide ((a :: []).length + ([] : List Keyword).length + (if ([] : List Keyword).isEmpty then 0 else 1) < 30)) = true := by rfl) (hs : swapsWith (.Call (.Attribute (.Name x py) "append" apos) [a] [] pos) none pos2.line X.env = pure false := by rfl)
    (hline : (apos.endLine == pos.line) = true := by rfl) :
    PS X (.Expr (.Call (.Attribute (.Name x py) "append" apos) [a] [] pos) pos2) (SS X.K X.mg F W (sApp i f)) :=
  ps_of (ps_expr (pe_bm PySem.F.plainAttrs_list PySem.F.slot_list_append PySem.F.type_list_append mt_append (pe_var hN hv hd hcd) (pa_cons ha pa_nil he) (hbase := hbase) (hfew := hfew) (hline := hline) (hs := he)) hs) fun Z σ H hw => by
    obtain ⟨S, δ, o, R, hf, q⟩ := hw
    unfold sApp at hf
    split at hf
    · rename_i ho
      obtain ⟨zs, hz⟩ := isLst_of ho
      obtain ⟨a0, vs0, ea0, _, e0, _⟩ := ow_addr R hz
      split at hf
      · rename_i d δ1 h1
        split at hf
        · rename_i xs h2
          split at hf
          · rename_i hlen
            cases hf
            refine ⟨.ref a0, ea0, .inl ⟨rfl, _, SqL.of e0⟩, S, δ, d, δ1, R, h1, fun v S1 H1 s1 R1 d1 => ?_⟩
            obtain ⟨a1, vs, w1, w2, w3, w4⟩ := ow_addr R1 h2
            rw [ea0] at w1
            cases w1
            refine ⟨a0, vs, v, rfl, rfl, w3, Evl.sz_lt (by rw [dqa_len w4]; exact hlen), ?_⟩
            exact q σ S1 _ s1.s (R1.mut h2 ea0 (dqa_app w4 (.cons d1 .nil)))
          · cases hf
        · cases hf
      · cases hf
    · cases hf
omit [TabSet] in
/-- xs.pop(e) -/
def fPop (i : Nat) (f : M) : M := fun δ => if isLst δ i = true then match f δ with
    | some (.int j, δ1) => match δ1[i]? with
      | some (.ow (.lst xs)) => match ixN xs.length j with
        | some k => match xs[k]? with
          | some d => if small j = true ∧ xs.length ≤ 100000 then some (d, δ1.set i (.ow (xs.eraseIdx k))) else none
          | none => none
        | none => none
      | _ => none
    | _ => none
  else none
theorem e_pop {i : Nat} {py apos : Pos} (ha : PE X a (SE X.K F f)) (hN : X.N[i]? = some x := by rfl) (hv : Vis X.env.scope x := by first | exact Or.inl rfl | exact Or.inr (Or.inl rfl) | exact Or.inr (Or.inr rfl)) (hd : (x == ("__debug__" : Str)) = false := by decide)
    (hcd : (x == ("__classdict__" : Str)) = false := by decide) (he : starEach (a :: []) X.env = (false, eval a X.env) :: starEach [] X.env := by rfl) (hbase : attributeBase (.Name x py) "pop" X.env (eval (.Name x py) X.env) = eval (.Name x py) X.env := by rfl)
    (hfew : ((backTo pos (starEach (a :: []) X.env)).all (fun x => !x.1) && (backToKw pos (keywordEach [] X.env)).all (fun x => x.1.isSome)
      && decide ((a :: []).length + ([] : List Keyword).length + (if ([] : List Keyword).isEmpty then 0 else 1) < 30)) = true := by rfl) (hline : (apos.endLine == pos.line) = true := by rfl) :
    PE X (.Call (.Attribute (.Name x py) "pop" apos) [a] [] pos) (SE X.K F (fPop i f)) :=
  pe_of fun S δ d δ' σ H Q R hf q => ⟨_, pe_bm PySem.F.plainAttrs_list PySem.F.slot_list_pop PySem.F.type_list_pop mt_popAt (pe_var hN hv hd hcd) (pa_cons ha pa_nil he) (hbase := hbase) (hfew := hfew) (hline := hline) (hs := he), by
    unfold fPop at hf
    split at hf
    · rename_i ho
      obtain ⟨zs, hz⟩ := isLst_of ho
      obtain ⟨a0, vs0, ea0, _, e0, _⟩ := ow_addr R hz
      split at hf
      · rename_i j δ1 h1
        split at hf
        · rename_i xs h2
          split at hf
          · rename_i k h3
            split at hf
            · rename_i z h4
              split at hf
              · rename_i h5
                cases hf
                refine ⟨.ref a0, ea0, .inl ⟨rfl, _, SqL.of e0⟩, S, δ, _, δ1, R, h1, fun v S1 H1 s1 R1 d1 => ?_⟩
                obtain ⟨a1, vs, w1, w2, w3, w4⟩ := ow_addr R1 h2
                rw [ea0] at w1
                cases w1
                obtain ⟨k1, k2, k3, k4⟩ := ixN_seq h3
                obtain ⟨y, y1, y2⟩ := dqa_get' w4 h4
                have hlen := dqa_len w4
                refine ⟨a0, vs, j, k, y, rfl, by rw [dq_int d1], w3, by omega, by omega, by rw [hlen]; exact k1, y1, ?_⟩
                have R2 := R1.mut h2 ea0 (dqa_erase k w4)
                have hl : i < δ1.length := (List.getElem?_eq_some_iff.mp h2).1
                refine q y S1 _ (s1.trans ⟨Ex.refl S1, fun _ _ _ => rfl, fun b o hb nt nb => ?_, fun b o hb => ?_, fun m us g => ?_, fun t => ⟨tabs_lst t.1 w3, t.2⟩⟩) R2 y2
                · rw [upd_ne (fun z => nb ⟨i, xs, h2, by rw [z]; exact ea0⟩)]; exact hb
                · by_cases hba : b = a0
                  · subst hba; exact ⟨_, upd_same⟩
                  · exact ⟨o, by rw [upd_ne hba]; exact hb⟩
                · by_cases hm : i = m
                  · subst hm; exact ⟨xs, h2⟩
                  · rw [List.getElem?_set_ne hm] at g; exact ⟨us, g⟩
              · cases hf
            · cases hf
          · cases hf
        · cases hf
      · cases hf
    · cases hf⟩

/-! ### loops -/
omit [TabSet] in
def forRun (g : MG) (body : MS) : List D → DE → Option Out
  | [], δ => some (.nx δ)
  | d :: ds, δ => match g d δ with
    | some δ1 => match body δ1 with
      | some (.nx δ2) => forRun g body ds δ2
      | some (.ct δ2) => forRun g body ds δ2
      | some (.bk δ2) => some (.nx δ2)
      | o => o
    | none => none
omit [TabSet] in
def sFor (it : MA) (g : MG) (body : MS) : MS := fun δ => match it δ with
  | some (ds, δ1) => forRun g body ds δ1
  | none => none
theorem s_for {it : MA} {gg : MG} {vs : List Nat} {iter : Expr} {sb : List Stmt} (hp : PassesOwn (model X.prog X.w) X.A X.env X.xe) (hc : X.calm = true) (hi : PI X tg iter (SI X.K F it)) (hg : PG X tg (SG X.K F vs gg)) (hb : PSs X sb (SS X.K X.mg F W fs)) (hs : ∀ x, foldedSetIterable iter X.env x = pure x := by intro _; rfl) :
    PS X (.For tg iter sb [] pos) (SS X.K X.mg F W (sFor it gg fs)) := ps_of (ps_for hp hc hi hg hb hs) fun Z σ H hw => by
  obtain ⟨S, δ, o, R, hf, q⟩ := hw
  unfold sFor at hf
  split at hf
  · rename_i ds δ1 h1
    refine ⟨S, δ, ds, δ1, R, h1, fun J S1 H1 s1 R1 hJ => ?_⟩
    refine ⟨fun i m τ H' => m = ds.length - i ∧ i ≤ ds.length ∧ ∃ S' δi, Ex S1 S' ∧ RSt X.K F S' H' τ δi ∧ forRun gg fs (ds.drop i) δi = some o, ⟨ds.length, by omega, Nat.zero_le _, S1, δ1, Ex.refl S1, R1, hf⟩, ?_⟩
    rintro i m τ H' ⟨rfl, hi', S', δi, x1, Ri, hr⟩
    by_cases hlt : i < ds.length
    · refine .inr ⟨hJ.go i S' H' x1 Ri.sub hlt, fun σ2 H2 => ∃ m', m' < ds.length - i ∧ (m' = ds.length - (i + 1) ∧ i + 1 ≤ ds.length ∧ ∃ S' δi, Ex S1 S' ∧ RSt X.K F S' H2 σ2 δi ∧ forRun gg fs (ds.drop (i + 1)) δi = some o), fun σ2 H2 h => h, fun x H3 hy => ?_⟩
      obtain ⟨S3, g3, d3⟩ := hJ.yld i S' H' x H3 ds[i] x1 Ri.sub hy (List.getElem?_eq_getElem hlt)
      rw [List.drop_eq_getElem_cons hlt] at hr
      simp only [forRun] at hr
      split at hr
      · rename_i δa ga
        refine ⟨S3, δi, ds[i], δa, Ri.grow g3, d3, ga, fun τ2 Rt _ _ _ => ?_⟩
        have x3 : Ex S1 S3 := x1.trans g3.s
        split at hr
        · rename_i δb tb
          exact ⟨S3, δa, _, Rt, tb, fun σ4 S4 H4 x4 R4 => ⟨ds.length - (i + 1), by omega, rfl, hlt, S4, δb, x3.trans x4, R4, hr⟩⟩
        · rename_i δb tb
          exact ⟨S3, δa, _, Rt, tb, fun σ4 S4 H4 x4 R4 => ⟨ds.length - (i + 1), by omega, rfl, hlt, S4, δb, x3.trans x4, R4, hr⟩⟩
        · rename_i δb tb
          cases hr
          exact ⟨S3, δa, _, Rt, tb, fun σ4 S4 H4 x4 R4 => q σ4 S4 H4 (s1.s.trans (x3.trans x4)) R4⟩
        · rename_i n1 n2 n3
          refine ⟨S3, δa, o, Rt, hr, ?_⟩
          have q' := out_ext (s1.s.trans x3) q
          cases o with
          | nx δ2 => exact absurd hr (n1 δ2)
          | ct δ2 => exact absurd hr (n2 δ2)
          | bk δ2 => exact absurd hr (n3 δ2)
          | rt d δ2 => exact q'
          | ex c p => exact q'
      · cases hr
    · refine .inl ⟨hJ.stop i S' H' x1 Ri.sub (by omega), ?_⟩
      rw [List.drop_eq_nil_of_le (by omega)] at hr
      cases hr
      exact q τ S' H' (s1.s.trans x1) Ri
  · cases hf
omit [TabSet] in
def whRun (tf : MT) (body : MS) : Nat → DE → Option Out
  | 0, _ => none
  | n + 1, δ => match tf δ with
    | some (false, δ1) => some (.nx δ1)
    | some (true, δ1) => match body δ1 with
      | some (.nx δ2) => whRun tf body n δ2
      | some (.ct δ2) => whRun tf body n δ2
      | some (.bk δ2) => some (.nx δ2)
      | o => o
    | none => none
omit [TabSet] in
def sWhile (n : Nat) (tf : MT) (body : MS) : MS := whRun tf body n
theorem s_while {n : Nat} {sb : List Stmt} (hp : PassesOwn (model X.prog X.w) X.A X.env X.xe) (hc : PT X c (ST X.K F tf)) (hb : PSs X sb (SS X.K X.mg F W fs)) : PS X (.While c sb [] pos) (SS X.K X.mg F W (sWhile n tf fs)) := ps_of (ps_while hp hc hb) fun Z σ H hw => by
  obtain ⟨S, δ, o, R, hf, q⟩ := hw
  refine ⟨fun m τ H' => ∃ S' δi, Ex S S' ∧ RSt X.K F S' H' τ δi ∧ whRun tf fs m δi = some o, ⟨n, S, δ, Ex.refl S, R, hf⟩, ?_⟩
  rintro m τ H' ⟨S', δi, x1, Ri, hr⟩
  cases m with
  | zero => cases hr
  | succ m =>
    simp only [whRun] at hr
    split at hr
    · rename_i δ1 h1
      cases hr
      exact ⟨S', δi, false, δ1, Ri, h1, fun S2 H2 s2 R2 => q τ S2 H2 (x1.trans s2.s) R2⟩
    · rename_i δ1 h1
      refine ⟨S', δi, true, δ1, Ri, h1, fun S2 H2 s2 R2 => ?_⟩
      refine ⟨fun σ3 H3 => ∃ m', m' < m + 1 ∧ ∃ S' δi, Ex S S' ∧ RSt X.K F S' H3 σ3 δi ∧ whRun tf fs m' δi = some o, fun σ3 H3 h => h, ?_⟩
      have x2 : Ex S S2 := x1.trans s2.s
      split at hr
      · rename_i δb tb
        exact ⟨S2, δ1, _, R2, tb, fun σ4 S4 H4 x4 R4 => ⟨m, by omega, S4, δb, x2.trans x4, R4, hr⟩⟩
      · rename_i δb tb
        exact ⟨S2, δ1, _, R2, tb, fun σ4 S4 H4 x4 R4 => ⟨m, by omega, S4, δb, x2.trans x4, R4, hr⟩⟩
      · rename_i δb tb
        cases hr
        exact ⟨S2, δ1, _, R2, tb, fun σ4 S4 H4 x4 R4 => q σ4 S4 H4 (x2.trans x4) R4⟩
      · rename_i n1 n2 n3
        refine ⟨S2, δ1, o, R2, hr, ?_⟩
        have q' := out_ext x2 q
        cases o with
        | nx δ2 => exact absurd hr (n1 δ2)
        | ct δ2 => exact absurd hr (n2 δ2)
        | bk δ2 => exact absurd hr (n3 δ2)
        | rt d δ2 => exact q'
        | ex c p => exact q'
    · cases hr
end

/-! ### defs -/
omit [TabSet] in
def mOf (n p : Nat) (body : MS) : MF := fun ds => if ds.length = p then match body (ds.map .sh ++ List.replicate (n - p) .no) with
    | some (.rt d _) => some (.ret d)
    | some (.nx _) => some (.ret .none)
    | some (.ex c q) => some (.exc c q)
    | _ => none
  else none
omit [TabSet] in
def mOfC (n p : Nat) (body : MS) : MC := fun xs ds => if ds.length + 1 = p then match body (.ow xs :: (ds.map .sh ++ List.replicate (n - p) .no)) with
    | some (.rt d δ') => match δ'[0]? with
      | some (Slot.ow (.lst ys)) => some (d, ys)
      | _ => none
    | some (.nx δ') => match δ'[0]? with
      | some (Slot.ow (.lst ys)) => some (.none, ys)
      | _ => none
    | _ => none
  else none
section
variable {P : Program} {w : World} {K : PySem.W.Frag} {mg : Str → Option Value} {base : Heap} {x : Str} {st : Stmt} {f : Addr} {fd : FuncData} {N ps : List Str} {k : Nat} {body : MS}
theorem start_sh {F : Fr} {S H : Hp} {vs : List V} {ds : List D} {n : Nat} (hF : F = ⟨H, S, none⟩) (ex : Ex S H) (d : DqAll S vs ds) (hl : vs.length ≤ N.length) (hn : n = N.length - ds.length) : RSt K F S H (L2.start N vs) (ds.map .sh ++ List.replicate n .no) := by
  subst hF
  have l := dqa_len d
  have look : ∀ (i : Nat) s, (ds.map Slot.sh ++ List.replicate n .no)[i]? = some s → (∃ z, ds[i]? = some z ∧ s = .sh z) ∨ s = .no := fun i s e => by
    by_cases hi : i < ds.length
    · rw [List.getElem?_append_left (by rw [List.length_map]; exact hi), List.getElem?_map, List.getElem?_eq_getElem hi] at e
      exact .inl ⟨ds[i], List.getElem?_eq_getElem hi, (Option.some.inj e).symm⟩
    · rw [List.getElem?_append_right (by rw [List.length_map]; omega), List.getElem?_replicate] at e
      split at e
      · exact .inr (Option.some.inj e).symm
      · cases e
  refine ⟨ex, fun b o h _ _ => h, fun b o h => ⟨o, h⟩, fun t => t, Ex.refl S, fun b o h => rfl, fun b h => (by cases h), ?_, fun i v s h1 h2 => ?_, fun i j a xs ys h1 h2 h3 h4 => ?_, fun a h => (by cases h)⟩
  · unfold L2.start
    simp only [List.length_append, List.length_map, List.length_replicate]
    omega
  · rcases look i s h2 with ⟨z, e1, rfl⟩ | rfl
    · obtain ⟨v', e2, e3⟩ := dqa_get' d e1
      have hi : i < vs.length := (List.getElem?_eq_some_iff.mp e2).1
      unfold L2.start at h1
      rw [List.getElem?_append_left (by rw [List.length_map]; exact hi), List.getElem?_map, e2] at h1
      exact ⟨v', (Option.some.inj h1).symm, e3⟩
    · trivial
  · rcases look i _ h1 with ⟨z, _, e⟩ | e <;> cases e
theorem fn_pure (F0 : Fun K x x st f fd) (Sc : FnScope N ps (defScope st)) (hNp : ps.length ≤ N.length)
    (hb : ∀ (cdv : Value) (A : Around) (outer : List Env) (s : Shared) (H : Hp) (E : XK) (F : Fr), Room k (A.deeper (envOfC x (defScope st) s.heap.objs.size f cdv)) →
      PSs (cxOf (L2.CX P w) P w K mg base N x (defScope st) f cdv A outer s H E) (defBody st) (SS K mg F (fun cls d _ H => E cls d H) body)) : FnOk P w K mg base (L2.CX P w) (k + 1) f fd ps (spF mg (mOf N.length ps.length body)) := by
  refine F0.okX Sc (fun vs H Q E h => ?_) (fun cdv A outer s H vs Q E hr h => ?_)
  · obtain ⟨S, ds, r, ex, d, hm, _⟩ := h
    unfold mOf at hm
    split at hm
    · rename_i hl
      rw [dqa_len d, hl]
    · cases hm
  · obtain ⟨S, ds, r, ex, d, hm, q⟩ := h
    refine ⟨_, hb cdv A outer s H E ⟨H, S, none⟩ hr, ?_⟩
    unfold mOf at hm
    split at hm
    · rename_i hl
      have hvl := dqa_len d
      have R := start_sh (K := K) (N := N) (F := ⟨H, S, none⟩) (n := N.length - ps.length) rfl ex d (by omega) (by omega)
      have gr : ∀ {σ' : L2.St} {S' H' : Hp} {δ' : DE}, RSt K ⟨H, S, none⟩ S' H' σ' δ' → Grow S H S' H' := fun R' => ⟨R'.s0, fun b o e nt => R'.base b o e nt (by simp), R'.sub, R'.out, R'.dom0, R'.tb0⟩
      split at hm
      · rename_i dd δ' hbd
        cases hm
        exact ⟨S, _, _, R, hbd, fun v σ' S' H' _ R' dv => q v S' H' (gr R') dv⟩
      · rename_i δ' hbd
        cases hm
        exact ⟨S, _, _, R, hbd, fun σ' S' H' _ R' => q .non S' H' (gr R') .non⟩
      · rename_i c p hbd
        cases hm
        refine ⟨S, _, _, R, hbd, fun σ' S' H' δ' _ R' => ?_⟩
        cases p with
        | none => exact fun cv hc => q S' H' cv (gr R') hc
        | some p => exact fun cv dd hc h0 hd => q S' H' cv dd (gr R') hc h0 hd
      · cases hm
    · cases hm
theorem fn_cup (F0 : Fun K x x st f fd) (Sc : FnScope N ps (defScope st)) (hNp : ps.length ≤ N.length)
    (hb : ∀ (cdv : Value) (A : Around) (outer : List Env) (s : Shared) (H : Hp) (E : XK) (F : Fr), Room k (A.deeper (envOfC x (defScope st) s.heap.objs.size f cdv)) →
      PSs (cxOf (L2.CX P w) P w K mg base N x (defScope st) f cdv A outer s H E) (defBody st) (SS K mg F (fun cls d _ H => E cls d H) body)) : FnOk P w K mg base (L2.CX P w) (k + 1) f fd ps (spC (mOfC N.length ps.length body)) := by
  refine F0.okX Sc (fun vs H Q E h => ?_) (fun cdv A outer s H vs Q E hr h => ?_)
  · obtain ⟨S, a, ws, xs, us, ds, d, xs', rfl, ex, n1, e1, dw, du, hm, _⟩ := h
    unfold mOfC at hm
    split at hm
    · rename_i hl
      rw [List.length_cons, dqa_len du, hl]
    · cases hm
  · obtain ⟨S, a, ws, xs, us, ds, d, xs', rfl, ex, n1, e1, dw, du, hm, q⟩ := h
    refine ⟨_, hb cdv A outer s H E ⟨H, S, some a⟩ hr, ?_⟩
    unfold mOfC at hm
    split at hm
    · rename_i hl
      have hvl := dqa_len du
      have R : RSt K ⟨H, S, some a⟩ S H (L2.start N (.ref a :: us)) (.ow xs :: (ds.map .sh ++ List.replicate (N.length - ps.length) .no)) := by
        have look : ∀ (i : Nat) s, (Slot.ow xs :: (ds.map Slot.sh ++ List.replicate (N.length - ps.length) .no))[i]? = some s → (i = 0 ∧ s = .ow xs) ∨ (∃ j z, i = j + 1 ∧ ds[j]? = some z ∧ s = .sh z) ∨ s = .no := fun i s e => by
          cases i with
          | zero => exact .inl ⟨rfl, (Option.some.inj e).symm⟩
          | succ i =>
            rw [List.getElem?_cons_succ] at e
            by_cases hi : i < ds.length
            · rw [List.getElem?_append_left (by rw [List.length_map]; exact hi), List.getElem?_map, List.getElem?_eq_getElem hi] at e
              exact .inr (.inl ⟨i, ds[i], rfl, List.getElem?_eq_getElem hi, (Option.some.inj e).symm⟩)
            · rw [List.getElem?_append_right (by rw [List.length_map]; omega), List.getElem?_replicate] at e
              split at e
              · exact .inr (.inr (Option.some.inj e).symm)
              · cases e
        have s0 : (L2.start N (.ref a :: us))[0]? = some (some (.ref a)) := rfl
        refine ⟨ex, fun b o h _ _ => h, fun b o h => ⟨o, h⟩, fun t => t, Ex.refl S, fun b o h => rfl, fun b h => ?_, ?_, fun i v s h1 h2 => ?_, fun i j b zs ys h1 h2 h3 h4 => ?_, fun b h => ?_⟩
        · cases h
          exact ⟨_, e1⟩
        · unfold L2.start
          simp only [List.length_append, List.length_map, List.length_replicate, List.length_cons]
          omega
        · rcases look i s h2 with ⟨rfl, rfl⟩ | ⟨j, z, rfl, e2, rfl⟩ | rfl
          · rw [s0] at h1
            cases h1
            exact ⟨a, .lst ws, rfl, n1, .inr rfl, e1, ob_lst dw⟩
          · obtain ⟨v', e3, e4⟩ := dqa_get' du e2
            have hi : j < us.length := (List.getElem?_eq_some_iff.mp e3).1
            unfold L2.start at h1
            rw [List.getElem?_append_left (by rw [List.length_map, List.length_cons]; omega), List.getElem?_map, List.getElem?_cons_succ, e3] at h1
            exact ⟨v', (Option.some.inj h1).symm, e4⟩
          · trivial
        · rcases look i _ h1 with ⟨rfl, _⟩ | ⟨_, _, _, _, z⟩ | z
          · rcases look j _ h2 with ⟨rfl, _⟩ | ⟨_, _, _, _, z⟩ | z
            · rfl
            · cases z
            · cases z
          · cases z
          · cases z
        · cases h
          exact ⟨s0, xs, rfl⟩
      have fin : ∀ {σ' : L2.St} {S' H' : Hp} {δ' : DE} {v : V} {dd : D} {ys : List D}, RSt K ⟨H, S, some a⟩ S' H' σ' δ' → δ'[0]? = some (.ow ys) → dd = d → ys = xs' → Dq S' v dd → Q v H' := fun {σ' S' H' δ' v dd ys} R' e0 ed ey dv => by
        subst ed ey
        obtain ⟨a', vs, w1, w2, w3, w4⟩ := ow_addr R' e0
        obtain ⟨p1, _⟩ := R'.pin a rfl
        rw [p1] at w1
        cases w1
        exact q v S' H' vs R'.s0 R'.sub R'.out (fun b o hb nt n => R'.base b o hb nt (fun z => n (by cases z; rfl))) R'.dom0 R'.tb0 w3 w4 dv
      split at hm
      · rename_i dd δ' hbd
        split at hm
        · rename_i ys h0
          cases hm
          exact ⟨S, _, _, R, hbd, fun v σ' S' H' _ R' dv => fin R' h0 rfl rfl dv⟩
        · cases hm
      · rename_i δ' hbd
        split at hm
        · rename_i ys h0
          cases hm
          exact ⟨S, _, _, R, hbd, fun σ' S' H' _ R' => fin R' h0 rfl rfl .non⟩
        · cases hm
      · cases hm
    · cases hm
end
end Sd

/-! More rules; defs as hypotheses. -/
namespace Sd
open PySem PySem.Spec PyProof.Rows L2
open Evl (Ex)
variable [TabSet]
section
variable {P : Program} {w : World} {K : PySem.W.Frag} {mg : Str → Option Value} {base : Heap}
/-- what the top holds of a def -/
structure FunAt (K : PySem.W.Frag) (mg : Str → Option Value) (x : Str) (st : Stmt) (ps : List Str) : Prop where
  ex : ∃ (f : Addr) (fd : FuncData), Fun K x x st f fd ∧ mg x = some (.ref f) ∧ Binds K fd ps []
theorem def_pure {x : Str} {st : Stmt} {N ps : List Str} {n p k : Nat} {body : MS} (A : FunAt K mg x st ps) (Sc : FnScope N ps (defScope st)) (hNp : ps.length ≤ N.length)
    (hb : ∀ (cdv : Value) (A : Around) (outer : List Env) (s : Shared) (H : Hp) (E : XK) (F : Fr) (f : Addr), Room k (A.deeper (envOfC x (defScope st) s.heap.objs.size f cdv)) →
      PSs (cxOf (L2.CX P w) P w K mg base N x (defScope st) f cdv A outer s H E) (defBody st) (SS K mg F (fun cls d _ H => E cls d H) body))
    (hn : N.length = n := by rfl) (hp : ps.length = p := by rfl) : DefOk P w K mg base x (k + 1) (spF mg (mOf n p body)) := by
  subst hn hp
  obtain ⟨f, fd, F0, hm, hB⟩ := A.ex
  exact ⟨⟨f, fd, ps, fn_pure F0 Sc hNp fun cdv A outer s H E F hr => hb cdv A outer s H E F f hr, hm, F0.kp, hB⟩⟩
theorem def_cup {x : Str} {st : Stmt} {N ps : List Str} {n p k : Nat} {body : MS} (A : FunAt K mg x st ps) (Sc : FnScope N ps (defScope st)) (hNp : ps.length ≤ N.length)
    (hb : ∀ (cdv : Value) (A : Around) (outer : List Env) (s : Shared) (H : Hp) (E : XK) (F : Fr) (f : Addr), Room k (A.deeper (envOfC x (defScope st) s.heap.objs.size f cdv)) →
      PSs (cxOf (L2.CX P w) P w K mg base N x (defScope st) f cdv A outer s H E) (defBody st) (SS K mg F (fun cls d _ H => E cls d H) body))
    (hn : N.length = n := by rfl) (hp : ps.length = p := by rfl) : DefOk P w K mg base x (k + 1) (spC (mOfC n p body)) := by
  subst hn hp
  obtain ⟨f, fd, F0, hm, hB⟩ := A.ex
  exact ⟨⟨f, fd, ps, fn_cup F0 Sc hNp fun cdv A outer s H E F hr => hb cdv A outer s H E F f hr, hm, F0.kp, hB⟩⟩
end
section
variable {X : Cx} {F : Fr} {e a b c tg : Expr} {es : List Expr} {pos p : Pos} {f g h : M} {tf : MT} {fa : MA} {x : Str} {k : Nat} {pf pg : PF}
omit [TabSet] in
def addI (x y : D) : Option D := match x, y with
  | .int i, .int j => some (.int (i + j))
  | _, _ => none
omit [TabSet] in
def pAdd (pf pg : PF) : PF := pOp addI pf pg
theorem p_addN (ha : PE X a (SP X.K F pf)) (hb : PE X b (SP X.K F pg)) : PE X (.BinOp a .Add b pos) (SP X.K F (pAdd pf pg)) := p_add ha hb
/-- a module's number -/
theorem e_glob {x : Str} {i : Int} {pos : Pos} (hm : ∃ u, X.mg x = some u ∧ RelV (.int i) u) (hg : Gl X x := by rfl) (hdb : (x == ("__debug__" : Str)) = false := by decide) : PE X (.Name x pos) (SE X.K F (fC (.int i))) := by
  obtain ⟨u, h1, h2⟩ := hm
  exact se_c (fun _ => .int i) (pe_glob hg h1 h2 hdb)
omit [TabSet] in
/-- an own list against another value -/
def fCmpO (i : Nat) (o : D → D → Option Bool) (g : M) : M := fun δ => if isOw δ i = true then match g δ with
    | some (e, δ1) => match δ1[i]? with
      | some (.ow (.lst xs)) => match o (.list xs) e with
        | some k => some (.bool k, δ1)
        | none => none
      | _ => none
    | none => none
  else none
omit [TabSet] in
/-- a slice of a list or of a tuple -/
def fSlA (f : M) (pl ph : PO') : M := fun δ => match f δ with
  | some (.list _, _) => fList (lSl f pl ph) δ
  | some (.tuple _, _) => fSlT f pl ph δ
  | _ => none
theorem e_slA {lo hi : Option Expr} {p2 : Pos} {pl ph : PO'} (ha : PE X a (SE X.K F f)) (hl : PO X lo (SO X.K F pl)) (hh : PO X hi (SO X.K F ph)) : PE X (.Subscript a (.Slice lo hi none p2) pos) (SE X.K F (fSlA f pl ph)) :=
  pe_of fun S δ d δ' σ H Q R hf q => by
    unfold fSlA at hf
    split at hf
    · exact ⟨_, se_f (f_sl (x_of ha) hl hh), S, δ, d, δ', R, hf, q⟩
    · exact ⟨_, e_slT ha hl hh, S, δ, d, δ', R, hf, q⟩
    · cases hf
end
end Sd

/-! The reverse of a tuple. -/
namespace Sd
open PySem PySem.Spec PyProof.Rows L2 HT
variable [TabSet]
section
variable {prog : Program} {w : World} {A : Around} {E : Value → Shared → Prop} {s : Shared}
theorem rev_adjust (n : Nat) : Builtin.Slice.sliceAdjust none none (-1) (n : Int) = ((n : Int) - 1, -1) := by
  unfold Builtin.Slice.sliceAdjust
  rfl
theorem rev_places (n : Nat) : Builtin.Slice.slicePlaces ((n : Int) - 1) (-1) (-1) = n := by
  unfold Builtin.Slice.slicePlaces
  have h1 : ¬ ((-1 : Int) > 0) := by omega
  simp only [h1, if_false]
  have e : -(-1 : Int) = 1 := by decide
  rw [e, Int.ediv_one]
  split <;> omega
theorem fm_congr {f g : Nat → Option Value} : ∀ l : List Nat, (∀ m ∈ l, f m = g m) → l.filterMap f = l.filterMap g
  | [], _ => rfl
  | x :: r, h => by
    rw [List.filterMap_cons, List.filterMap_cons, h x (List.mem_cons_self ..), fm_congr r fun m hm => h m (List.mem_cons_of_mem _ hm)]
theorem rev_pick (xs : Array Value) : ((List.range xs.size).filterMap fun (m : Nat) => xs[((xs.size : Int) - 1 + (m : Int) * (-1)).toNat]?).toArray = xs.toList.reverse.toArray := by
  congr 1
  have e1 := PySem.W.krv_all xs.toList.reverse.toArray
  rw [List.size_toArray, List.length_reverse, Array.length_toList] at e1
  refine Eq.trans (fm_congr _ fun m hm => ?_) e1
  have hm' : m < xs.size := List.mem_range.mp hm
  have e2 : ((xs.size : Int) - 1 + (m : Int) * (-1)).toNat = xs.size - 1 - m := by omega
  rw [e2]
  show xs[xs.size - 1 - m]? = xs.toList.reverse.toArray[m]?
  refine Eq.trans ?_ (List.getElem?_toArray (xs := xs.toList.reverse) (i := m)).symm
  rw [List.getElem?_reverse (by rw [Array.length_toList]; exact hm'), Array.length_toList, Array.getElem?_toList]
theorem sliceApplied_rev {sl : Addr} {vs : Value} {n : Nat} {Q : Int × Int × Nat → Shared → Prop} (hs : s.heap.IsSliceOf sl .none .none vs) (ps : IsPart vs (some (-1)))
    (h : Q ((n : Int) - 1, -1, n) s) : wpAny (model prog w) A (Builtin.Slice.sliceApplied (.ref sl) (pure (n : Int))) Q E s := by
  obtain ⟨os, hos, hcs, hds⟩ := id hs
  unfold Builtin.Slice.sliceApplied Builtin.Slice.sliceFields
  refine wpAny_bind (wpAny_bind (wpAny_field hos hds (x := .none) rfl (wpAny_bind (wpAny_field hos hds (x := .none) rfl (wpAny_bind (wpAny_field hos hds (x := vs) rfl (wpAny_pure ?_)))))))
  refine wpAny_bind (slicePart_ ps ?_)
  show wpAny _ _ (if ((-1 : Int) == 0) = true then _ else _) _ _ s
  rw [if_neg (by decide)]
  refine wpAny_bind (slicePart_none (wpAny_bind (slicePart_none (wpAny_bind (wpAny_pure ?_)))))
  show wpAny _ _ (match Builtin.Slice.sliceAdjust none none (-1) (n : Int) with | (lo, hi) => pure (lo, (-1 : Int), Builtin.Slice.slicePlaces lo hi (-1))) _ _ s
  rw [rev_adjust]
  show wpAny _ _ (pure ((n : Int) - 1, (-1 : Int), Builtin.Slice.slicePlaces ((n : Int) - 1) (-1) (-1))) _ _ s
  rw [rev_places]
  exact wpAny_pure h
theorem getItem_tuple_rev {t sl : Addr} {items : Array Value} {vs : Value} {Q : Value → Shared → Prop} (ht : IsTup s.heap t items) (hs : s.heap.IsSliceOf sl .none .none vs) (ps : IsPart vs (some (-1)))
    (h : Q (.ref s.heap.objs.size) { s with heap := s.heap.push { cls := .type "tuple", data := .seq items.toList.reverse.toArray } })
    (hsz : items.size ≤ sizeLine) : wpAny (model prog w) A (getItem (.ref t) (.ref sl)) Q E s := by
  have htake : sizeOk (.seq items.toList.reverse.toArray) := by
    show items.toList.reverse.toArray.size ≤ sizeLine
    rw [List.size_toArray, List.length_reverse, Array.length_toList]
    exact hsz
  obtain ⟨os, hos, hcs, hds⟩ := id hs
  have hTs : s.TypeIs (.ref sl) "slice" := ⟨os, hos, hcs⟩
  unfold getItem
  try with_reducible refine wpAny_holding ?_
  first | refine wpAny_bind (wpAny_pure ?_) | skip
  refine wpAny_bind (wpAny_sequenceKey ht.typeIs (by decide) ?_)
  refine wpAny_bind (wpAny_callSpecial?_slot (name := Str.ofString "__getitem__") ht.typeIs PyProof.Rows.slot_tuple_getitem
    (wpAny_call_entry PyProof.Rows.slot_tuple_getitem ht.typeIs entry_tuple_getitem ?_ (args_tuple_getitem _ _)))
  show wpAny _ _ (Builtin.Tuple.tupleItemsOf (.ref t) >>= _) _ _ s
  refine wpAny_bind (tupleItemsOf_ ht ?_)
  refine wpAny_bind (wpAny_typeOf hTs ?_)
  rw [if_pos (by decide)]
  refine wpAny_bind (sliceApplied_rev hs ps ?_)
  have hno : ¬ ((((items.size : Int) - 1) == 0 && (-1 : Int) == 1 && items.size == items.size) = true) := by
    rw [show ((-1 : Int) == 1) = false by decide, Bool.and_false, Bool.false_and]
    exact Bool.false_ne_true
  show wpAny _ _ (if (((items.size : Int) - 1) == 0 && (-1 : Int) == 1 && items.size == items.size) = true then _ else _) _ _ s
  rw [if_neg hno, rev_pick]
  first
    | exact wpAny_bind (m := Builtin.Tuple.tupleExact _) (wpAny_newObj_type (wpAny_pure ⟨_, rfl, wpAny_pure h⟩) htake)
    | exact wpAny_bind (m := Builtin.Tuple.tupleExact _) (wpAny_newObj_type (wpAny_bind (wpAny_pure (wpAny_pure ⟨_, rfl, wpAny_pure h⟩))) htake)
    | exact wpAny_bind (wpAny_bind (m := Builtin.Tuple.tupleExact _) (wpAny_newObj_type (wpAny_pure (wpAny_pure ⟨_, rfl, wpAny_pure h⟩)) htake))
    | exact wpAny_bind (wpAny_bind (m := Builtin.Tuple.tupleExact _) (wpAny_newObj_type (wpAny_pure ⟨_, rfl, wpAny_pure h⟩) htake))
end
section
variable {X : Cx} {F : Fr} {e : Expr} {f : M}
theorem pe_revT {te : TE} {k : Nat} {p1 p2 p3 pos : Pos} (he : PE X e te) : PE X (.Subscript e (.Slice none none (some (.UnaryOp .USub (.Constant (.int 1) k p1) p2)) p3) pos)
    (fun σ H Q => te σ H fun x H1 => ∃ a xs, x = .ref a ∧ SqT X.K H1 a xs ∧ NewT H1 Q xs.reverse) := by
  refine ⟨fun pins s σ H Q I h => ?_⟩
  refine Subscript_ (thn (he.run pins s σ H _ I h) fun v s1 ⟨x, H1, I1, r1, q1⟩ => ?_)
  obtain ⟨a, xs, ex, hx, q⟩ := q1
  subst ex
  cases r1
  have hst : PO X (some (.UnaryOp .USub (.Constant (.int 1) k p1) p2)) (tPart (tUn (rU fun i => .int (-i)) (tC (.int 1)))) := po_some (pe_un un_neg pe_int)
  refine wpAny_Slice (thn (po_none.run pins s1 σ H1 (fun o H2 => o = none ∧ H2 = H1) I1 ⟨rfl, rfl⟩) fun vl s2 ⟨l, H2, I2, pl, el, e2⟩ => ?_)
  subst el e2
  refine thn (po_none.run pins s2 σ H2 (fun o H3 => o = none ∧ H3 = H2) I2 ⟨rfl, rfl⟩) fun vu s3 ⟨u, H3, I3, pu, eu, e3⟩ => ?_
  subst eu e3
  refine thn (hst.run pins s3 σ H3 (fun o H4 => o = some (-1) ∧ H4 = H3) I3 ⟨1, rfl, -1, rfl, rfl, rfl⟩) fun vs s4 ⟨o, H4, I4, ps, eo, e4⟩ => ?_
  subst eo e4
  cases pl
  cases pu
  have I5 : Inv X pins σ H4 { s4 with heap := s4.heap.push { cls := .type "slice", data := .fields #[.none, .none, vs] } } := I4.kept (t' := s4.toks) fun b ob q => Heap.get?_push_of_some _ q
  obtain ⟨its, r, ht, hz⟩ := I5.tuple hx
  have hlen := r.length
  show wpAny (model X.prog X.w) X.A (subscriptTail e (.Slice none none (some (.UnaryOp .USub (.Constant (.int 1) k p1) p2)) p3) (.ref a) (.ref s4.heap.objs.size)) (EP X pins σ Q) X.xe { s4 with heap := s4.heap.push { cls := .type "slice", data := .fields #[.none, .none, vs] } }
  refine tail_any (ops := [.ref a, .ref s4.heap.objs.size]) ht.typeIs (PyProof.Rows.slot_tuple_getitem.lookup) ?_ (by with_unfolding_all rfl)
  refine getItem_tuple_rev ht (Heap.IsSliceOf.new _ .none .none vs) ps ?_ (by rw [List.size_toArray]; omega)
  exact end_t I5 r.reverse (by rw [List.length_reverse]; exact hz) s4.toks q
omit [TabSet] in
/-- t[::-1], t a tuple -/
def fRevT (f : M) : M := fun δ => match f δ with
  | some (.tuple ds, δ') => some (.tuple ds.reverse, δ')
  | _ => none
omit [TabSet] in
def lRev (f : M) : MA := fun δ => match f δ with
  | some (.list ds, δ') => some (ds.reverse, δ')
  | _ => none
omit [TabSet] in
def fRev (f : M) : M := fun δ => match f δ with
  | some (.list _, _) => fList (lRev f) δ
  | some (.tuple _, _) => fRevT f δ
  | _ => none
theorem e_revT {k : Nat} {p1 p2 p3 pos : Pos} (ha : PE X e (SE X.K F f)) : PE X (.Subscript e (.Slice none none (some (.UnaryOp .USub (.Constant (.int 1) k p1) p2)) p3) pos) (SE X.K F (fRevT f)) := by
  refine pe_of fun S δ d δ' σ H Q R hf q => ⟨_, pe_revT ha, ?_⟩
  unfold fRevT at hf
  split at hf
  · rename_i ds δ1 h1
    cases hf
    refine ⟨S, δ, _, _, R, h1, fun v S1 H1 s1 R1 d1 => ?_⟩
    obtain ⟨p1, v1, rfl, e1, d1⟩ := dq_tup d1
    refine ⟨p1, v1, rfl, Tp.sq (Tp.ext R1.sub e1), fun p its n hp => ?_⟩
    obtain ⟨g4, g5⟩ := grow_tup R1.sub its n hp (dqa_rev d1)
    exact q _ _ _ (s1.trans (Stp.grow g4)) (R1.grow g4) g5
  · cases hf
theorem f_rev {k : Nat} {p1 p2 p3 pos : Pos} (ha : PE X e (SX X.K F f)) : PE X (.Subscript e (.Slice none none (some (.UnaryOp .USub (.Constant (.int 1) k p1) p2)) p3) pos) (SF X.K F (lRev f)) := by
  refine pf_of fun S δ ds δ' σ H Q R hf q => ⟨_, pe_revL ha, ?_⟩
  unfold lRev at hf
  split at hf
  · rename_i zs δ1 h1
    cases hf
    refine ⟨S, δ, _, _, R, h1, fun v S1 H1 s1 R1 d1 => ?_⟩
    obtain ⟨p1, v1, rfl, e1, d1⟩ := d1
    refine ⟨p1, v1, rfl, SqL.of e1, fun p hp => ?_⟩
    obtain ⟨R4, s4, n4⟩ := lay_fresh (o := .lst v1.reverse) R1 hp
    refine q p _ S1 _ (s1.trans s4) R4 ?_ n4 upd_same (dqa_rev d1)
    cases hz : H p with
    | none => rfl
    | some o =>
      obtain ⟨o', q'⟩ := s1.dom p o hz
      rw [hp] at q'; cases q'
  · cases hf
theorem e_rev {k : Nat} {p1 p2 p3 pos : Pos} (ha : PE X e (SE X.K F f)) : PE X (.Subscript e (.Slice none none (some (.UnaryOp .USub (.Constant (.int 1) k p1) p2)) p3) pos) (SE X.K F (fRev f)) :=
  pe_of fun S δ d δ' σ H Q R hf q => by
    unfold fRev at hf
    split at hf
    · exact ⟨_, se_f (f_rev (x_of ha)), S, δ, d, δ', R, hf, q⟩
    · exact ⟨_, e_revT ha, S, δ, d, δ', R, hf, q⟩
    · cases hf
end
end Sd

/-! Own lists in front; the script; lists that a def makes. -/
namespace Sd
open PySem PySem.Spec PyProof.Rows L2
open Evl (Ex)
variable [TabSet]
theorem ex_own {S H : Hp} (ex : Ex S H) {a : Addr} {o : HO} (hS : S a = none) (hH : H a = some o) : Ex S (upd S a o) ∧ Ex (upd S a o) H := by
  refine ⟨Ex.new hS, fun b u h => ?_⟩
  by_cases e : b = a
  · subst e
    rw [upd_same] at h
    cases h
    exact hH
  · rw [upd_ne e] at h
    exact ex b u h
section
variable {X : Cx} {F : Fr} {e a b c tg : Expr} {es : List Expr} {pos p : Pos} {f g h : M} {tf : MT} {fa : MA} {x : Str} {k : Nat} {pf pg : PF}
theorem cmpO_run {i : Nat} {op : CmpOp} {o : D → D → Option Bool} {S : Hp} {δ δ' : DE} {d : D} {σ : L2.St} {H : Hp} {Q : VK} (ho : CmpOk X op o) (R : RSt X.K F S H σ δ) (hf : fCmpO i o g δ = some (d, δ'))
    (q : ∀ v S' H', Stp S H S' H' σ δ δ' → RSt X.K F S' H' σ δ' → Dq S' v d → Q v H') : ∃ (r : R2) (a0 : Addr), OpR X (compareOp op) r ∧ σ[i]? = some (some (.ref a0)) ∧ SE X.K F g σ H fun y H2 => r (.ref a0) y H2 Q := by
  unfold fCmpO at hf
  split at hf
  · rename_i hi
    obtain ⟨zs, hz⟩ := isOw_of hi
    obtain ⟨a0, vs0, ea0, _⟩ := ob_addr R hz
    split at hf
    · rename_i e1 δ1 h1
      split at hf
      · rename_i xs h2
        split at hf
        · rename_i k h3
          cases hf
          obtain ⟨r, k1, k2⟩ := ho _ _ k h3
          refine ⟨r, a0, k1, ea0, S, δ, e1, _, R, h1, fun y S1 H1 s1 R1 d1 => ?_⟩
          obtain ⟨a1, vs, w1, w2, w3, w4⟩ := ow_addr R1 h2
          rw [ea0] at w1
          cases w1
          obtain ⟨x1, x2⟩ := ex_own R1.sub w2 w3
          exact k2 _ H1 (.ref a0) y _ x2 (.lst upd_same (dqa_ext x1 w4)) (dq_ext x1 d1) (q _ S1 H1 s1 R1 (.bl k))
        · cases hf
      · cases hf
    · cases hf
  · cases hf
theorem e_cmpO {i : Nat} {px : Pos} {op : CmpOp} {o : D → D → Option Bool} (ho : CmpOk X op o) (hb : PE X b (SE X.K F g)) (hN : X.N[i]? = some x := by rfl) (hv : Vis X.env.scope x := by first | exact Or.inl rfl | exact Or.inr (Or.inl rfl) | exact Or.inr (Or.inr rfl)) (hd : (x == ("__debug__" : Str)) = false := by decide)
    (hcd : (x == ("__classdict__" : Str)) = false := by decide) (hm : behindInMarks op b = false := by first | exact nomark _ | rfl) : PE X (.Compare (.Name x px) [op] [b] pos) (SE X.K F (fCmpO i o g)) :=
  pe_of fun S δ d δ' σ H Q R hf q => by
    obtain ⟨r, a0, h1, h2, h3⟩ := cmpO_run ho R hf q
    exact ⟨_, pe_cmpR h1 (pe_var hN hv hd hcd) hb hm, .ref a0, h2, h3⟩
omit [TabSet] in
def fCmpOT (i : Nat) (o : D → D → Option Bool) (g : M) : MT := fun δ => match fCmpO i o g δ with
  | some (.bool b, δ') => some (b, δ')
  | _ => none
theorem t_cmpO {i : Nat} {px : Pos} {op : CmpOp} {o : D → D → Option Bool} (ho : CmpOk X op o) (hb : PE X b (SE X.K F g)) (hN : X.N[i]? = some x := by rfl) (hv : Vis X.env.scope x := by first | exact Or.inl rfl | exact Or.inr (Or.inl rfl) | exact Or.inr (Or.inr rfl)) (hd : (x == ("__debug__" : Str)) = false := by decide)
    (hcd : (x == ("__classdict__" : Str)) = false := by decide) (hm : behindInMarks op b = false := by first | exact nomark _ | rfl) : PT X (.Compare (.Name x px) [op] [b] pos) (ST X.K F (fCmpOT i o g)) :=
  t_of_e (ff := fCmpO i o g) fun σ H Q hw => by
    obtain ⟨S, δ, d, δ', R, hf, q⟩ := hw
    obtain ⟨r, a0, h1, h2, h3⟩ := cmpO_run ho R hf q
    exact ⟨_, pt_cmpR h1 (pe_var hN hv hd hcd) hb hm, .ref a0, h2, h3⟩
omit [TabSet] in
/-- a, b = (a new list, e) -/
def sParO (i j : Nat) (ff : MA) (g : M) : MS := fun δ => match ff δ with
  | some (xs, δ1) => match g δ1 with
    | some (d, δ2) => if free0 i δ2 = true ∧ free0 j δ2 = true ∧ i ≠ j then some (.nx ((δ2.set i (.ow xs)).set j (.sh d))) else none
    | none => none
  | none => none
variable {W : WX}
theorem s_parO {i j : Nat} {y : Str} {px py pt : Pos} {kt k2 pt2} {ff : MA} (hc : X.calm = true) (hN : X.N.Nodup) (ha : PE X a (SF X.K F ff)) (hb : PE X b (SE X.K F g)) (hw : swappedStores [.Tuple [.Name x px, .Name y py] kt pt] (.Tuple [a, b] k2 pt2) X.env = pure (some [x, y])) (hi : X.N[i]? = some x := by rfl) (hj : X.N[j]? = some y := by rfl) (hij : i ≠ j := by decide)
    (he : starEach (a :: [b]) X.env = (false, eval a X.env) :: starEach [b] X.env := by rfl) (he2 : starEach (b :: []) X.env = (false, eval b X.env) :: starEach [] X.env := by rfl)
    (hx : X.env.scope.names.lookup x = some .local := by rfl) (hy : X.env.scope.names.lookup y = some .local := by rfl) (hs : swapsWithSole [.Tuple [.Name x px, .Name y py] kt pt] (.Tuple [a, b] k2 pt2) pos.line X.env = pure false := by rfl) :
    PS X (.Assign [.Tuple [.Name x px, .Name y py] kt pt] (.Tuple [a, b] k2 pt2) pos) (SS X.K X.mg F W (sParO i j ff g)) := ps_of (ps_par hc hN hi hj hij hx hy (pa_cons ha (pa_cons hb pa_nil he2) he) hw hs) fun Z σ H hw => by
  obtain ⟨S, δ, o, R, hf, q⟩ := hw
  unfold sParO at hf
  split at hf
  · rename_i xs δ1 h1
    split at hf
    · rename_i d δ2 h2
      split at hf
      · rename_i h0
        cases hf
        refine ⟨S, δ, _, _, R, h1, fun a0 vs S1 H1 s1 R1 n0 n1 e1 d1 => ⟨S1, δ1, d, δ2, R1, h2, fun v S2 H2 s2 R2 d2 => ?_⟩⟩
        obtain ⟨z1, z2, z3⟩ := own_new R s1 n0
        have n2 : S2 a0 = none := (s2.out _ _ e1).trans n1
        have e2 : H2 a0 = some (.lst vs) := s2.keep _ _ e1 nt_lst z3
        have z4 : ¬ Own σ δ2 a0 := fun o => z3 (s2.own o)
        have R3 := R2.set_ow n2 (.inl z1) e2 (ob_lst (dqa_ext s2.s d1)) z4 i (free0_of h0.1)
        refine ⟨_, _, rfl, q _ S2 H2 (s1.s.trans s2.s) (R3.set_sh d2 j fun e xs' z => ?_)⟩
        subst e
        have h9 := free0_of h0.2.1 rfl
        rw [List.getElem?_set_ne h0.2.2] at z
        exact h9 _ z
      · cases hf
    · cases hf
  · cases hf
/-! ### the script -/
omit [TabSet] in
def lScr (i : Nat) : MA := fun δ => match δ[i]? with
  | some (.scr ns) => if ns.length ≤ 100000 then some (ns.map .int, δ) else none
  | _ => none
theorem scr_addr {K : PySem.W.Frag} {S H : Hp} {σ : L2.St} {δ : DE} {i : Nat} {ns : List Int} (R : RSt K F S H σ δ) (hd : δ[i]? = some (.scr ns)) : ∃ a, σ[i]? = some (some (.ref a)) ∧ SqL K S a (ns.map V.int) := by
  have hl : i < σ.length := by rw [R.len]; exact (List.getElem?_eq_some_iff.mp hd).1
  obtain ⟨a, e1, e2⟩ := R.slot i _ _ (List.getElem?_eq_getElem hl) hd
  exact ⟨a, by rw [List.getElem?_eq_getElem hl, e1], e2⟩
theorem dqa_nums {S : Hp} : ∀ ns : List Int, DqAll S (ns.map V.int) (ns.map .int)
  | [] => .nil
  | n :: r => .cons (.int n) (dqa_nums r)
theorem sql_ext {K : PySem.W.Frag} {S H : Hp} (ex : Ex S H) {a : Addr} {vs : List V} (h : SqL K S a vs) : SqL K H a vs := by
  rcases h with (h | h) | h
  · exact .inl (.inl (ex _ _ h))
  · obtain ⟨o, h⟩ := h
    exact .inl (.inr ⟨o, ex _ _ h⟩)
  · exact .inr h
theorem f_listScr {i : Nat} {pp px : Pos} (hm : X.mg "list" = none) (hg : Gl X "list" := by rfl) (hN : X.N[i]? = some x := by rfl) (hv : Vis X.env.scope x := by first | exact Or.inl rfl | exact Or.inr (Or.inl rfl) | exact Or.inr (Or.inr rfl)) (hd : (x == ("__debug__" : Str)) = false := by decide)
    (hcd : (x == ("__classdict__" : Str)) = false := by decide) (he : starEach (.Name x px :: []) X.env = (false, eval (.Name x px) X.env) :: starEach [] X.env := by rfl) (hpl : (backTo pos (starEach [] X.env)).any (·.1) = false := by rfl) :
    PE X (.Call (.Name "list" pp) [.Name x px] [] pos) (SF X.K F (lScr i)) := by
  refine pf_of fun S δ ds δ' σ H Q R hf q => ⟨_, pe_callTy call_list_of hg hm boot_list (pa_cons (pe_var hN hv hd hcd) pa_nil he) (he := he) (hpl := hpl), ?_⟩
  unfold lScr at hf
  split at hf
  · rename_i ns h1
    split at hf
    · cases hf
      obtain ⟨a0, w1, w2⟩ := scr_addr R h1
      refine ⟨.ref a0, w1, a0, _, rfl, .inl (sql_ext R.sub w2), fun l hl => ?_⟩
      obtain ⟨R2, s2, n2⟩ := lay_fresh (o := .lst (ns.map V.int)) R hl
      exact q l _ S _ s2 R2 hl n2 upd_same (dqa_nums ns)
    · cases hf
  · cases hf
/-! ### a def that makes a list -/
abbrev MO := List Int → Option (List D)
def spO (K : PySem.W.Frag) (m : MO) : Sp := fun vs H Q _ => ∃ S a ns xs, vs = [.ref a] ∧ Ex S H ∧ SqL K S a (ns.map V.int) ∧ m ns = some xs ∧
  ∀ p us S' H', Grow S H S' H' → H p = none → S' p = none → H' p = some (.lst us) → DqAll S' us xs → Q (.ref p) H'
def SSO (K : PySem.W.Frag) (mg : Str → Option Value) (F : Fr) (W : WX) (f : MA) : TS := fun Z σ H => ∃ S δ xs δ', RSt K F S H σ δ ∧ f δ = some (xs, δ') ∧
  ∀ p us σ' S' H', Ex S S' → RSt K F S' H' σ' δ' → F.H0 p = none → F.io ≠ some p → S' p = none → H' p = some (.lst us) → DqAll S' us xs → Z.rt (.ref p) H'
omit [TabSet] in
def oSeq (fs : MS) (ff : MA) : MA := fun δ => match fs δ with
  | some (.nx δ1) => ff δ1
  | _ => none
theorem o_ret {ff : MA} (he : PE X e (SF X.K F ff)) : PSs X [.Return (some e) pos] (SSO X.K X.mg F W ff) := by
  refine ⟨fun pins s σ H Z I hw => (pss_one (ps_ret he)).run pins s σ H Z I ?_⟩
  obtain ⟨S, δ, xs, δ', R, hf, q⟩ := hw
  refine ⟨S, δ, xs, δ', R, hf, fun a0 vs S1 H1 s1 R1 n0 n1 e1 d1 => ?_⟩
  obtain ⟨z1, z2, z3⟩ := own_new R s1 n0
  exact q a0 vs σ S1 H1 s1.s R1 z1 z2 n1 e1 d1
theorem o_cons {st : Stmt} {rest : List Stmt} {fs : MS} {ff : MA} (h1 : PS X st (SS X.K X.mg F W fs)) (h2 : PSs X rest (SSO X.K X.mg F W ff)) : PSs X (st :: rest) (SSO X.K X.mg F W (oSeq fs ff)) := by
  refine ⟨fun pins s σ H Z I hw => (pss_cons h1 h2).run pins s σ H Z I ?_⟩
  obtain ⟨S, δ, xs, δ', R, hf, q⟩ := hw
  unfold oSeq at hf
  split at hf
  · rename_i δ1 hd
    exact ⟨S, δ, .nx δ1, R, hd, fun σ1 S1 H1 x1 R1 => ⟨S1, δ1, xs, δ', R1, hf, fun p us σ2 S2 H2 x2 => q p us σ2 S2 H2 (x1.trans x2)⟩⟩
  · cases hf
omit [TabSet] in
def mOfO (n : Nat) (body : MA) : MO := fun ns => match body (.scr ns :: List.replicate (n - 1) .no) with
  | some (xs, _) => some xs
  | none => none
omit [TabSet] in
/-- the call, the list kept by the caller -/
def lCallO (i : Nat) (m : MO) : MA := fun δ => match δ[i]? with
  | some (.scr ns) => match m ns with
    | some xs => some (xs, δ)
    | none => none
  | _ => none
theorem f_callO {i : Nat} {y : Str} {py : Pos} {m : MO} (D0 : DefOk X.prog X.w X.K X.mg X.base x k (spO X.K m)) (hr : Room k X.A) (hN : X.N[i]? = some y := by rfl) (hv : Vis X.env.scope y := by first | exact Or.inl rfl | exact Or.inr (Or.inl rfl) | exact Or.inr (Or.inr rfl)) (hg : Gl X x := by rfl) (hdb : (x == ("__debug__" : Str)) = false := by decide)
    (hd : (y == ("__debug__" : Str)) = false := by decide) (hcd : (y == ("__classdict__" : Str)) = false := by decide) (he : starEach (.Name y py :: []) X.env = (false, eval (.Name y py) X.env) :: starEach [] X.env := by rfl) (hpl : (backTo pos (starEach [] X.env)).any (·.1) = false := by rfl) :
    PE X (.Call (.Name x p) [.Name y py] [] pos) (SF X.K F (lCallO i m)) := by
  obtain ⟨fn, fd, ps, FO, hm, hk, hb⟩ := D0.ex
  refine pf_of fun S δ ds δ' σ H Q R hf q => ⟨_, pe_call FO hr hg hm hk hb .nil passL (pa_cons (pe_var hN hv hd hcd) pa_nil he) hdb he hpl, ?_⟩
  unfold lCallO at hf
  split at hf
  · rename_i ns h1
    split at hf
    · rename_i xs h2
      cases hf
      obtain ⟨a0, w1, w2⟩ := scr_addr R h1
      refine ⟨.ref a0, w1, S, a0, ns, _, rfl, R.sub, w2, h2, fun p us S1 H1 g1 n1 n2 e1 d1 => ?_⟩
      exact q p us S1 H1 (Stp.grow g1) (R.grow g1) n1 n2 e1 d1
    · cases hf
  · cases hf
end
section
variable {P : Program} {w : World} {K : PySem.W.Frag} {mg : Str → Option Value} {base : Heap}
theorem start_scr {N : List Str} {F : Fr} {S H : Hp} {a : Addr} {ns : List Int} {n : Nat} (hF : F = ⟨H, S, none⟩) (ex : Ex S H) (hq : SqL K S a (ns.map V.int)) (hl : 1 ≤ N.length) (hn : n = N.length - 1) : RSt K F S H (L2.start N [.ref a]) (.scr ns :: List.replicate n .no) := by
  subst hF
  refine ⟨ex, fun b o h _ _ => h, fun b o h => ⟨o, h⟩, fun t => t, Ex.refl S, fun b o h => rfl, fun b h => (by cases h), ?_, fun i v s h1 h2 => ?_, fun i j a xs ys h1 h2 h3 h4 => ?_, fun a h => (by cases h)⟩
  · unfold L2.start
    simp only [List.length_append, List.length_map, List.length_replicate, List.length_cons, List.length_nil]
    omega
  · cases i with
    | zero =>
      cases h2
      cases h1
      exact ⟨a, rfl, hq⟩
    | succ i =>
      rw [List.getElem?_cons_succ, List.getElem?_replicate] at h2
      split at h2
      · cases h2; trivial
      · cases h2
  · cases i with
    | zero => cases h1
    | succ i =>
      rw [List.getElem?_cons_succ, List.getElem?_replicate] at h1
      split at h1 <;> cases h1
theorem def_made {x : Str} {st : Stmt} {N ps : List Str} {n k : Nat} {body : MA} (A : FunAt K mg x st ps) (Sc : FnScope N ps (defScope st)) (hNp : ps.length ≤ N.length)
    (hb : ∀ (cdv : Value) (A : Around) (outer : List Env) (s : Shared) (H : Hp) (E : XK) (F : Fr) (f : Addr), Room k (A.deeper (envOfC x (defScope st) s.heap.objs.size f cdv)) →
      PSs (cxOf (L2.CX P w) P w K mg base N x (defScope st) f cdv A outer s H E) (defBody st) (SSO K mg F (fun cls d _ H => E cls d H) body))
    (hn : N.length = n := by rfl) (hp : ps.length = 1 := by rfl) : DefOk P w K mg base x (k + 1) (spO K (mOfO n body)) := by
  subst hn
  obtain ⟨f, fd, F0, hm, hB⟩ := A.ex
  refine ⟨⟨f, fd, ps, F0.okX Sc (fun vs H Q E h => ?_) (fun cdv A outer s H vs Q E hr h => ?_), hm, F0.kp, hB⟩⟩
  · obtain ⟨S, a, ns, xs, rfl, _⟩ := h
    exact hp.symm
  · obtain ⟨S, a, ns, xs, rfl, ex, hq, hm, q⟩ := h
    refine ⟨_, hb cdv A outer s H E ⟨H, S, none⟩ f hr, ?_⟩
    unfold mOfO at hm
    split at hm
    · rename_i zs δ' hbd
      cases hm
      refine ⟨S, _, _, _, start_scr rfl ex hq (by omega) rfl, hbd, fun p us σ' S' H' x1 R' n1 _ n3 e1 d1 => ?_⟩
      exact q p us S' H' ⟨R'.s0, fun b o e nt => R'.base b o e nt (by simp), R'.sub, R'.out, R'.dom0, R'.tb0⟩ n1 n3 e1 d1
    · cases hm
end
end Sd

/-! Sorting: ints in a list or tuple, tuples of ints behind an empty one. -/
namespace Sd
/-! ### insertion -/
def ins {α : Type} (le : α → α → Bool) (x : α) : List α → List α
  | [] => [x]
  | y :: r => if le x y = true then x :: y :: r else y :: ins le x r
def srt {α : Type} (le : α → α → Bool) : List α → List α
  | [] => []
  | x :: r => ins le x (srt le r)
section
variable {α : Type} {le : α → α → Bool}
theorem ins_perm (x : α) : ∀ l : List α, (ins le x l).Perm (x :: l)
  | [] => .refl _
  | y :: r => by
    unfold ins
    split
    · exact .refl _
    · exact ((ins_perm x r).cons y).trans (.swap x y r)
theorem srt_perm : ∀ l : List α, (srt le l).Perm l
  | [] => .refl _
  | x :: r => (ins_perm x _).trans ((srt_perm r).cons x)
theorem ins_sorted (tot : ∀ x y, le x y = true ∨ le y x = true) (tr : ∀ x y z, le x y = true → le y z = true → le x z = true) (x : α) : ∀ l : List α, l.Pairwise (le · ·) → (ins le x l).Pairwise (le · ·)
  | [], _ => List.pairwise_singleton _ _
  | y :: r, h => by
    obtain ⟨h1, h2⟩ := List.pairwise_cons.mp h
    unfold ins
    split
    · rename_i e
      refine List.pairwise_cons.mpr ⟨fun z hz => ?_, h⟩
      rcases List.mem_cons.mp hz with rfl | hz
      · exact e
      · exact tr _ _ _ e (h1 z hz)
    · rename_i e
      refine List.pairwise_cons.mpr ⟨fun z hz => ?_, ins_sorted tot tr x r h2⟩
      rcases List.mem_cons.mp ((ins_perm x r).mem_iff.mp hz) with rfl | hz
      · exact (tot z y).resolve_left e
      · exact h1 z hz
theorem srt_sorted (tot : ∀ x y, le x y = true ∨ le y x = true) (tr : ∀ x y z, le x y = true → le y z = true → le x z = true) : ∀ l : List α, (srt le l).Pairwise (le · ·)
  | [] => .nil
  | x :: r => ins_sorted tot tr x _ (srt_sorted tot tr r)
theorem srt_uniq (tot : ∀ x y, le x y = true ∨ le y x = true) (tr : ∀ x y z, le x y = true → le y z = true → le x z = true) (anti : ∀ x y, le x y = true → le y x = true → x = y) {l m : List α} (hp : m.Perm l) (hs : m.Pairwise (le · ·)) : m = srt le l :=
  List.Perm.eq_of_pairwise (le := (le · ·)) (fun a b _ _ h1 h2 => anti a b h1 h2) hs (srt_sorted tot tr l) (hp.trans (srt_perm l).symm)
end
def leI (x y : Int) : Bool := decide (x ≤ y)
def leT (x y : List Int) : Bool := !HT.lexLt y x
theorem leI_tot (x y : Int) : leI x y = true ∨ leI y x = true := by
  unfold leI
  rw [decide_eq_true_iff, decide_eq_true_iff]
  omega
theorem leI_tr (x y z : Int) : leI x y = true → leI y z = true → leI x z = true := by
  unfold leI
  rw [decide_eq_true_iff, decide_eq_true_iff, decide_eq_true_iff]
  omega
theorem leI_anti (x y : Int) : leI x y = true → leI y x = true → x = y := by
  unfold leI
  rw [decide_eq_true_iff, decide_eq_true_iff]
  omega
theorem leT_iff {x y : List Int} : leT x y = true ↔ HT.lexLt y x = false := by
  unfold leT
  cases HT.lexLt y x <;> simp
theorem leT_tot (x y : List Int) : leT x y = true ∨ leT y x = true := by
  rw [leT_iff, leT_iff]
  cases h : HT.lexLt y x with
  | false => exact .inl rfl
  | true => exact .inr (NtL.lex_asym _ _ h)
theorem leT_tr (x y z : List Int) : leT x y = true → leT y z = true → leT x z = true := by
  rw [leT_iff, leT_iff, leT_iff]
  exact fun h1 h2 => NtL.lex_tr _ _ _ h1 h2
theorem leT_anti : ∀ x y : List Int, leT x y = true → leT y x = true → x = y := by
  intro x
  induction x with
  | nil =>
    intro y h1 h2
    cases y with
    | nil => rfl
    | cons b y =>
      rw [leT_iff] at h2
      cases h2
  | cons a x ih =>
    intro y h1 h2
    cases y with
    | nil =>
      rw [leT_iff] at h1
      cases h1
    | cons b y =>
      rw [leT_iff, HT.lexLt_cons] at h1 h2
      by_cases e : a = b
      · subst e
        rw [if_pos rfl] at h1 h2
        rw [ih y (leT_iff.mpr h1) (leT_iff.mpr h2)]
      · rw [if_neg (fun z => e z.symm)] at h1
        rw [if_neg e] at h2
        have h1' := of_decide_eq_false h1
        have h2' := of_decide_eq_false h2
        exact absurd (show a = b by omega) e

open PySem PySem.Spec PyProof.Rows L2
open Evl (Ex)
/-! ### sorted of a tuple of ints -/
section
variable {prog : Program} {w : World} {A : Around} {E : Value → Shared → Prop} {s : Shared}
theorem collect_tup {l : Addr} {vs : List Value} {Q : List Value → Shared → Prop} (hl : IsTup s.heap l vs.toArray) (hsz : vs.length ≤ sizeLine)
    (h : Q vs { s with heap := (s.heap.push (seqObj "list" #[] 0)).update s.heap.objs.size (Obj.mapSeq (· ++ vs.toArray)) }) : wpAny (model prog w) A (collect (.ref l)) Q E s := by
  obtain ⟨o, g0, gc, n, gd⟩ := id hl
  unfold collect
  refine wpAny_bind (wpAny_runValue (codeAny_builtin entry_proto_collect' (show wpAny _ _ (do again (.builtin "list.__iadd__" ⟨[← newList [], .ref l], []⟩)) _ _ s from
    wpAny_bind (wpAny_newList (wpAny_pure ⟨Code.quiet_builtin _ (by decide +kernel), codeAny_builtin entry_list_iadd' ?_⟩)))))
  show wpAny _ _ (Builtin.List.listExtendWith (.ref s.heap.objs.size) (.ref l) (.ref s.heap.objs.size)) _ _ { s with heap := s.heap.push (seqObj "list" #[] 0) }
  unfold Builtin.List.listExtendWith
  have g1 : (s.heap.push (seqObj "list" #[] 0)).get? l = some o := Heap.get?_push_of_some _ g0
  have gt : (Value.type "tuple" == Value.type "tuple") = true := rfl
  refine wpAny_bind (wpAny_typeOf (T := "tuple") ⟨o, g1, gc⟩ ?_)
  rw [if_pos (by rw [gt]; simp)]
  refine wpAny_bind (listItems_at g1 gd (wpAny_bind (listItems_at (xs := #[]) (n := 0) (Heap.get?_push_size _ rfl) rfl ?_)))
  rw [if_neg (by simp)]
  refine wpAny_bind (listUpdate_at (xs := #[]) (n := 0) (Heap.get?_push_size _ rfl) rfl (wpAny_pure ?_) (Nat.zero_le _) (by
    show (#[] ++ vs.toArray).size ≤ sizeLine + 1
    rw [Array.size_append, List.size_toArray]
    show 0 + vs.length ≤ _
    omega))
  show wpAny (model prog w) A (do
    let x ← load s.heap.objs.size
    match x.data with
    | .seq ys _ => pure ys.toList
    | _ => unsupported "internal:collect") Q E { s with heap := (s.heap.push (seqObj "list" #[] 0)).update s.heap.objs.size (Obj.mapSeq (· ++ vs.toArray)) }
  refine wpAny_bind (wpAny_load (get?_update_seq (Heap.get?_push_size _ rfl) _) ?_)
  show wpAny _ _ (pure ((#[] : Array Value) ++ vs.toArray).toList) Q E _
  have e : ((#[] : Array Value) ++ vs.toArray).toList = vs := by simp
  rw [e]
  exact wpAny_pure h
/-- sorted(t), t a tuple: as of a list -/
theorem sorted_ordT {l : Addr} {vs : List Value} {ltv : Value → Value → Bool} {Q : Value → Shared → Prop} (O : SrtO.Swo ltv) (hl : IsTup s.heap l vs.toArray) (hz : vs.length ≤ sizeLine)
    (hS : 2 ≤ vs.length → ∀ (h₁ : Heap) (a : Addr), (∀ b o, s.heap.get? b = some o → b ≠ a ∧ h₁.get? b = some o) → SrtO.SortableO prog w A.in1.in1 { s with heap := h₁ } a vs ltv)
    (h : ∀ out : List Value, SrtO.Srtd ltv out → SrtO.Stb ltv out vs → Q (.ref (s.heap.objs.size + 1)) { s with heap := sortedAll s.heap vs out.toArray }) :
    wpAny (model prog w) A (call (.builtin "sorted") [.ref l]) Q E s := by
  refine Calls.call_function_entry kind_sorted plain_sorted entry_sorted (args_sorted1 _) ?_
  unfold Builtin.«sorted»
  refine wpAny_bind (m := checkCount "sorted" 1 1 _) (wpAny_pure (wpAny_bind (collect_tup hl hz (wpAny_bind (wpAny_newList ?_ hz)))))
  have es : ((s.heap.push (seqObj "list" #[] 0)).update s.heap.objs.size (Obj.mapSeq (· ++ vs.toArray))).objs.size = s.heap.objs.size + 1 := (Heap.size_update ..).trans (size_push' _ _)
  have eo : (((s.heap.push (seqObj "list" #[] 0)).update s.heap.objs.size (Obj.mapSeq (· ++ vs.toArray))).push (seqObj "list" vs.toArray 0)).get? (s.heap.objs.size + 1) = some (seqObj "list" vs.toArray 0) := by
    rw [← es]
    exact Heap.get?_push_size _ rfl
  show wpAny _ _ _ _ _ { s with heap := ((s.heap.push (seqObj "list" #[] 0)).update s.heap.objs.size (Obj.mapSeq (· ++ vs.toArray))).push (seqObj "list" vs.toArray 0) }
  rw [es]
  refine wpAny_bind (wpAny_holding (wpAny_call_entry slot_list_sort ⟨_, eo, rfl⟩ entry_list_sort (SrtO.list_sort_ord O eo hz (fun h2 => hS h2 _ _ fun b o q => ?_) fun out hs hb => ⟨_, rfl, wpAny_pure ⟨_, rfl, h out hs hb⟩⟩) (args_list_sort _)))
  have lt : b < s.heap.objs.size := Heap.lt_size q
  exact ⟨Nat.ne_of_lt (Nat.lt_succ_of_lt lt), Heap.get?_push_of_some _ ((Heap.get?_update_ne _ _ _ _ (Nat.ne_of_lt lt)).trans (Heap.get?_push_of_some _ q))⟩
/-! ### tuples, the first of them empty -/
def TupsA (h : Heap) : List Value → List (Array Value) → Prop
  | [], [] => True
  | v :: vs, x :: xs => (∃ a, v = .ref a ∧ IsTup h a x) ∧ TupsA h vs xs
  | _, _ => False
theorem firsts_tup : ∀ (vs : List Value) (xs : List (Array Value)) {Q : List (Option Value) → Shared → Prop}, TupsA s.heap vs xs → Q (xs.map (·[0]?)) s → wpAny (model prog w) A (vs.mapM firstOfTuple') Q E s
  | [], [], _, _, h => by
    rw [List.mapM_nil]
    exact wpAny_pure h
  | [], _ :: _, _, t, _ => t.elim
  | _ :: _, [], _, t, _ => t.elim
  | v :: vs, x :: xs, Q, t, h => by
    obtain ⟨⟨a, rfl, o, g0, gc, n, gd⟩, t⟩ := t
    rw [List.mapM_cons, PySem.W.kas_first_eq]
    refine wpAny_bind (wpAny_bind (wpAny_typeOf (T := "tuple") ⟨o, g0, gc⟩ ?_))
    rw [if_neg (by first | decide | simp)]
    exact wpAny_bind (listItems_at g0 gd (wpAny_pure (wpAny_bind (firsts_tup vs xs t (wpAny_pure h)))))
theorem tupsA_type : ∀ {vs : List Value} {xs : List (Array Value)}, TupsA s.heap vs xs → ∀ v ∈ vs, s.TypeIs v "tuple"
  | v :: vs, x :: xs, t, u, hu => by
    obtain ⟨⟨a, rfl, o, g0, gc, n, gd⟩, t⟩ := t
    rcases List.mem_cons.mp hu with rfl | hu
    · exact ⟨o, g0, gc⟩
    · exact tupsA_type t u hu
theorem kind_tups {vs : List Value} {xs : List (Array Value)} {Q : SortKind → Shared → Prop} (t : TupsA s.heap vs (#[] :: xs)) (h : Q oneType' s) : wpAny (model prog w) A (keyKind' vs.toArray) Q E s := by
  rw [keyKind'_eq, List.mapM_toArray, map_eq_pure_bind]
  refine wpAny_bind (wpAny_bind (firsts_tup vs _ t (wpAny_pure ?_)))
  have e0 : (((#[] : Array Value) :: xs).map (·[0]?)).toArray[0]? = some (none : Option Value) := by simp
  rw [if_neg (by simp), e0, if_neg (by simp), oneTypeOnly'_eq, List.mapM_toArray, map_eq_pure_bind]
  refine wpAny_bind (wpAny_bind (wpAny_bind (PySem.W.kas_mapM (r := Value.type "tuple") _ (fun v hv Q' hq => wpAny_typeOf (tupsA_type t v hv) hq) (wpAny_pure ?_))))
  match vs, t with
  | v :: vs, t =>
    have e1 : ((List.map (fun _ => Value.type "tuple") (v :: vs)).toArray.all fun x => x == Value.type "tuple") = true := by
      simp only [List.all_toArray, List.all_map, List.all_eq_true]
      intro _ _
      rfl
    have e2 : (List.map (fun _ => Value.type "tuple") (v :: vs)).toArray[0]? = some (Value.type "tuple") := by simp
    rw [e2]
    simp only [e1, if_true]
    exact wpAny_pure (wpAny_pure h)
/-- v is a tuple of these ints -/
def TupI (h : Heap) (v : Value) (ns : List Int) : Prop := ∃ a items, v = .ref a ∧ IsTup h a items ∧ IntsAre items.toList ns
theorem lt_tups {v u : Value} {ns ms : List Int} {Q : Bool → Shared → Prop} (hu : A.units < cLine) (hv : TupI s.heap v ns) (hw : TupI s.heap u ms) (h : Q (HT.lexLt ns ms) s) : wpAny (model prog w) A (keyLt' oneType' v u) Q E s := by
  obtain ⟨a, items, rfl, ⟨⟨c1, dd, data, sl⟩, ga, gc, n, gd⟩, ia⟩ := hv
  obtain ⟨b, items2, rfl, ⟨⟨c2, dd2, data2, sl2⟩, gb, gc2, n2, gd2⟩, ib⟩ := hw
  simp only at gc gd gc2 gd2
  subst gc gd gc2 gd2
  rw [keyLt'_oneType, oneLt'_eq]
  simp only [if_true]
  refine wpAny_bind (wpAny_cRoomFor hu (wpAny_bind (wpAny_callSpecialIfBound?_slot (T := "tuple") ⟨_, ga, rfl⟩ PySem.F.slot_tuple_lt
    (call_meets PySem.F.slot_tuple_lt ⟨_, ga, rfl⟩ PySem.F.entry_tuple_lt (PySem.F.args_tuple_lt_2 _ _) (HT.tuple_lt_ints a b items items2 n n2 dd dd2 sl sl2 ns ms ia ib) ⟨ga, gb, ?_⟩))))
  exact wpAny_truthy_bool h
end
end Sd

/-! sorted, on data. -/
namespace Sd
open PySem PySem.Spec PyProof.Rows L2
open Evl (Ex)
section
variable {X : Cx}
/-- sorted(t), t a tuple of ints -/
def rSortTI (K : PySem.W.Frag) : List V → Hp → VK → Prop := fun vs H Q => ∃ (a : Addr) (ns : List Int), vs = [V.ref a] ∧ SqT K H a (ns.map V.int) ∧ ∀ p, H p = none → Q (.ref p) (upd H p (.lst ((srt leI ns).map V.int)))
theorem cr_sortTI : CallR X (.builtin "sorted") (rSortTI X.K) := by
  intro pins s σ H vs us Q I r h
  obtain ⟨a, ns, rfl, hs, q⟩ := h
  obtain ⟨its, rv, ht, hz⟩ := I.tuple hs
  rw [Vals.ref1 r]
  have hi := rv.ints
  refine sorted_ordT SrtO.swo_int ht (by rw [← rv.length]; exact hz) (fun h2 h₁ a' _ => SrtO.ints_sortable hi h2) fun out h1 h2 => ?_
  obtain ⟨k1, k2, k3⟩ := SrtO.ints_out hi h1 h2
  obtain ⟨ep, he'⟩ := PyProof.Rows.sortedAll_at s.heap its out.toArray
  have e : out.map SrtO.iv = srt leI ns := srt_uniq leI_tot leI_tr leI_anti k2 (k3.imp fun z => decide_eq_true z)
  rw [e] at k1
  have hlen : ((srt leI ns).map V.int).length ≤ sizeLine := by
    rw [List.length_map, (srt_perm ns).length_eq]
    rw [List.length_map] at hz
    exact hz
  exact ⟨.ref _, upd H (s.heap.objs.size + 1) (.lst ((srt leI ns).map V.int)), I.laid (t' := s.toks) (fun _ _ => PyProof.Rows.sortedAll_old) (Nat.le_succ _) ⟨hlen, out, ep, vals_of_ints k1, he'⟩, rfl, q _ (I.hok.fresh (Nat.le_succ _))⟩
/-- sorted(xs), xs a list of tuples of ints, the first of them empty -/
def rSortTs (K : PySem.W.Frag) : List V → Hp → VK → Prop := fun vs H Q => ∃ (a : Addr) (xs : List V) (k : V → List Int), vs = [V.ref a] ∧ SqL K H a xs ∧ (∀ x ∈ xs, ∃ t, x = V.ref t ∧ SqT K H t ((k x).map V.int)) ∧ (∃ x0 xr, xs = x0 :: xr ∧ k x0 = []) ∧
  ∀ ys p, ys.Perm xs → ys.map k = srt leT (xs.map k) → H p = none → Q (.ref p) (upd H p (.lst ys))
theorem tupsA_of {h : Heap} {k : Value → List Int} : ∀ {vs : List Value}, (∀ v ∈ vs, TupI h v (k v)) → ∃ xs : List (Array Value), TupsA h vs xs ∧ xs.length = vs.length ∧ ∀ v0 vr, vs = v0 :: vr → k v0 = [] → ∃ xr, xs = #[] :: xr
  | [], _ => ⟨[], trivial, rfl, fun _ _ e => by cases e⟩
  | v :: vs, hv => by
    obtain ⟨xs, t, l, _⟩ := tupsA_of (vs := vs) fun u hu => hv u (List.mem_cons_of_mem _ hu)
    obtain ⟨a, items, e1, e2, e3⟩ := hv v (List.mem_cons_self ..)
    refine ⟨items :: xs, ⟨⟨a, e1, e2⟩, t⟩, by rw [List.length_cons, List.length_cons, l], fun v0 vr e h0 => ?_⟩
    cases e
    rw [h0] at e3
    have e4 : items = #[] := by
      generalize hl : items.toList = l at e3
      cases e3
      exact Array.toList_eq_nil_iff.mp hl
    exact ⟨xs, by rw [e4]⟩
theorem TupI.keeps {h h' : Heap} {v : Value} {ns : List Int} (t : TupI h v ns) (k : ∀ b o, v = .ref b → h.get? b = some o → h'.get? b = some o) : TupI h' v ns := by
  obtain ⟨a, items, e1, ⟨o, g, r⟩, e3⟩ := t
  exact ⟨a, items, e1, ⟨o, k a o e1 g, r⟩, e3⟩
theorem tups_sortable {prog : Program} {w : World} {A : Around} {s : Shared} {a : Addr} {vs : List Value} {k : Value → List Int} (hu : A.units < cLine) (hv : ∀ v ∈ vs, TupI s.heap v (k v)) (h0 : ∃ v0 vr, vs = v0 :: vr ∧ k v0 = []) (ha : ∀ v ∈ vs, v ≠ .ref a) :
    SrtO.SortableO prog w A s a vs fun v u => HT.lexLt (k v) (k u) := by
  intro h' keep
  have hv' : ∀ v ∈ vs, TupI h' v (k v) := fun v hm => (hv v hm).keeps fun b o e g => keep b o (fun z => ha v hm (by rw [e, z])) g
  obtain ⟨v0, vr, e0, ek⟩ := h0
  obtain ⟨xs, t, _, hx⟩ := tupsA_of hv'
  obtain ⟨xr, ex⟩ := hx v0 vr e0 ek
  rw [ex] at t
  refine ⟨oneType', fun Q E hq => kind_tups (s := { s with heap := h' }) t hq, fun p q hp hq => ?_⟩
  exact lt_tups (s := { s with heap := h' }) (Q := fun r s' => s' = { s with heap := h' } ∧ r = HT.lexLt (k p.1) (k q.1)) (E := fun _ _ => False) hu (hv' p.1 hp) (hv' q.1 hq) ⟨rfl, rfl⟩
theorem cr_sortTs {n : Nat} (hr : Room n X.A) : CallR X (.builtin "sorted") (rSortTs X.K) := by
  intro pins s σ H vs us Q I r h
  obtain ⟨a, xs, k, rfl, hs, hx, ⟨x0, xr, ex, ek⟩, q⟩ := h
  obtain ⟨its, rv, hl, hz⟩ := I.list hs
  obtain ⟨u, rfl, ru⟩ := vals1 r
  obtain rfl : u = Value.ref a := ru
  obtain ⟨e1, e2⟩ := refs_back rv fun x m => by
    obtain ⟨t, e, _⟩ := hx x m
    exact ⟨t, e⟩
  have hT : ∀ v ∈ its, TupI s.heap v (k (backV v)) := fun v hv => by
    obtain ⟨t, rfl⟩ := e2 v hv
    have hm : V.ref t ∈ xs := by
      rw [e1]
      exact List.mem_map.mpr ⟨_, hv, rfl⟩
    obtain ⟨t', e, ht⟩ := hx _ hm
    cases e
    obtain ⟨its2, r2, it2, _⟩ := I.tuple ht
    exact ⟨t, _, rfl, it2, r2.ints⟩
  have h0 : ∃ v0 vr, its = v0 :: vr ∧ k (backV v0) = [] := by
    rw [e1] at ex
    cases its with
    | nil => cases ex
    | cons v0 vr =>
      rw [List.map_cons] at ex
      cases ex
      exact ⟨v0, vr, rfl, ek⟩
  have hu : X.A.in1.in1.units < cLine := by
    have := hr.units
    show X.A.units + 1 + 1 < cLine
    omega
  refine SrtO.sorted_ord (NtL.swo_lexL fun v => k (backV v)) hl.isList (by rw [← rv.length]; exact hz) (fun h2 h₁ a' hS keep => ?_) fun out h1 h2 => ?_
  · refine tups_sortable (k := fun v => k (backV v)) hu (fun v hv => (hT v hv).keeps fun b o e g => (keep b o g).2) h0 fun v hv e => ?_
    obtain ⟨b, items, rfl, ⟨o, g, _⟩, _⟩ := hT v hv
    cases e
    exact (keep _ _ g).1 rfl
  · have h3 : ∀ u ∈ out, ∃ a, u = Value.ref a := fun u hu => e2 u (h2.perm.mem_iff.mp hu)
    obtain ⟨ep, he'⟩ := PyProof.Rows.sortedAll_at s.heap its out.toArray
    have hp : (out.map backV).Perm xs := by
      rw [e1]
      exact h2.perm.map backV
    have hk : (out.map backV).map k = srt leT (xs.map k) := by
      refine srt_uniq leT_tot leT_tr leT_anti (hp.map k) ?_
      rw [List.map_map]
      exact List.pairwise_map.mpr (h1.imp fun z => leT_iff.mpr z)
    refine ⟨.ref _, upd H (s.heap.objs.size + 1) (.lst (out.map backV)), I.laid (t' := s.toks) (fun _ _ => PyProof.Rows.sortedAll_old) (Nat.le_succ _) ⟨?_, out, ep, vals_back h3, he'⟩, rfl, q _ _ hp hk (I.hok.fresh (Nat.le_succ _))⟩
    rw [hp.length_eq]
    exact hz
/-! ### on data -/
def tupsD : List D → Option (List (List Int))
  | [] => some []
  | .tuple ds :: r => match intsD ds, tupsD r with
    | some ns, some nss => some (ns :: nss)
    | _, _ => none
  | _ :: _ => none
def tI (ns : List Int) : D := .tuple (ns.map .int)
theorem intsD_eq : ∀ {ds : List D} {ns : List Int}, intsD ds = some ns → ds = ns.map PyData.int
  | [], _, h => by cases h; rfl
  | d :: r, ns, h => by
    cases d <;> simp only [intsD] at h <;> first | cases h | skip
    cases h2 : intsD r with
    | none => rw [h2] at h; cases h
    | some ms =>
      rw [h2] at h
      cases h
      rw [intsD_eq h2]
      rfl
theorem tupsD_eq : ∀ {ds : List D} {nss : List (List Int)}, tupsD ds = some nss → ds = nss.map tI
  | [], nss, h => by cases h; rfl
  | d :: r, nss, h => by
    cases d <;> simp only [tupsD] at h <;> first | cases h | skip
    split at h
    · rename_i ds ns mss h1 h2
      cases h
      have e1 := intsD_eq h1
      rw [tupsD_eq h2, e1]
      rfl
    · cases h
def uSorted : D → Option D
  | .list ds => match intsD ds with
    | some ns => some (.list ((srt leI ns).map .int))
    | none => match tupsD ds with
      | some ([] :: nss) => some (.list ((srt leT ([] :: nss)).map tI))
      | _ => none
  | .tuple ds => match intsD ds with
    | some ns => some (.list ((srt leI ns).map .int))
    | none => none
  | _ => none
variable [TabSet]
theorem dq_tI {S : Hp} {x : V} {ns : List Int} (h : Dq S x (tI ns)) : ∃ t, x = .ref t ∧ Tp S t (ns.map V.int) := by
  obtain ⟨p1, v1, rfl, e1, d1⟩ := dq_tup h
  have e : intsD (ns.map PyData.int) = some ns := by
    clear h d1
    induction ns with
    | nil => rfl
    | cons n r ih =>
      rw [List.map_cons]
      simp only [intsD, ih, Option.map_some]
  exact ⟨p1, rfl, by rw [← dqa_ints d1 e]; exact e1⟩
omit [TabSet] in
noncomputable def keyI (S : Hp) (x : V) : List Int := open Classical in if q : ∃ ns, Dq S x (tI ns) then q.choose else []
theorem ints_inj : ∀ {ns ms : List Int}, ns.map V.int = ms.map V.int → ns = ms
  | [], [], _ => rfl
  | [], _ :: _, h => by cases h
  | _ :: _, [], h => by cases h
  | n :: ns, m :: ms, h => by
    rw [List.map_cons, List.map_cons] at h
    injection h with h1 h2
    cases h1
    rw [ints_inj h2]
theorem keyI_eq {S : Hp} {x : V} {ns : List Int} (h : Dq S x (tI ns)) : keyI S x = ns := by
  unfold keyI
  have q : ∃ ns, Dq S x (tI ns) := ⟨ns, h⟩
  rw [dif_pos q]
  obtain ⟨t, e1, e2⟩ := dq_tI h
  obtain ⟨t', e3, e4⟩ := dq_tI q.choose_spec
  rw [e1] at e3
  cases e3
  exact (ints_inj (Tp.inj e2 e4)).symm
theorem keys_eq {S : Hp} : ∀ {vs : List V} {nss : List (List Int)}, DqAll S vs (nss.map tI) → vs.map (keyI S) = nss ∧ ∀ x ∈ vs, ∃ ns, Dq S x (tI ns)
  | [], [], _ => ⟨rfl, fun x hx => absurd hx (by simp)⟩
  | _ :: _, [], h => by cases h
  | [], _ :: _, h => by cases h
  | v :: vs, ns :: nss, h => by
    rw [List.map_cons] at h
    cases h with
    | cons h1 h2 =>
      obtain ⟨k1, k2⟩ := keys_eq h2
      refine ⟨by rw [List.map_cons, keyI_eq h1, k1], fun x hx => ?_⟩
      rcases List.mem_cons.mp hx with rfl | hx
      · exact ⟨ns, h1⟩
      · exact k2 x hx
theorem dqa_keys {S : Hp} : ∀ {ys : List V}, (∀ x ∈ ys, ∃ ns, Dq S x (tI ns)) → DqAll S ys ((ys.map (keyI S)).map tI)
  | [], _ => .nil
  | y :: ys, h => by
    obtain ⟨ns, h1⟩ := h y (List.mem_cons_self ..)
    rw [List.map_cons, List.map_cons]
    refine .cons ?_ (dqa_keys fun x hx => h x (List.mem_cons_of_mem _ hx))
    rw [keyI_eq h1]
    exact h1
variable {F : Fr} {f : M} {a : Expr} {pos : Pos}
theorem e_sorted {n : Nat} {pp : Pos} (hr : Room n X.A) (hm : X.mg "sorted" = none) (ha : PE X a (SX X.K F f)) (hg : Gl X "sorted" := by rfl) (he : starEach (a :: []) X.env = (false, eval a X.env) :: starEach [] X.env := by rfl) (hpl : (backTo pos (starEach [] X.env)).any (·.1) = false := by rfl) :
    PE X (.Call (.Name "sorted" pp) [a] [] pos) (SE X.K F (f1 uSorted f)) := by
  refine e_c1 (bi := .builtin "sorted") (fun r hr => pe_callB hr hg hm PyProof.Rows.boot_sorted (pa_cons ha pa_nil he) (he := he) (hpl := hpl)) fun d z hz => ?_
  have new : ∀ {S H : Hp} {p : Addr} {vs : List V} {ds : List D} {Q : VK}, Ex S H → H p = none → DqAll S vs ds → (∀ v S' H', Grow S H S' H' → Dq S' v (.list ds) → Q v H') → Q (.ref p) (upd H p (.lst vs)) := fun ex hp dv q =>
    q _ _ _ (Grow.new ex hp) (.lst upd_same (dqa_ext (Ex.new (Evl.fresh_back ex hp)) dv))
  cases d <;> simp only [uSorted] at hz <;> first | cases hz | skip
  · rename_i ds
    split at hz
    · rename_i ns h1
      cases hz
      refine ⟨_, cr_sortedI, fun S H v Q ex d1 q => ?_⟩
      obtain ⟨p1, v1, rfl, e1, d1⟩ := d1
      refine ⟨p1, ns, rfl, ?_, fun ns' p k1 k2 hp => ?_⟩
      · rw [← dqa_ints d1 h1]
        exact SqL.of e1
      · have e : ns' = srt leI ns := srt_uniq leI_tot leI_tr leI_anti k1 (k2.imp fun z => decide_eq_true z)
        rw [e]
        exact new ex hp (dqa_of_ints S _) q
    · split at hz
      · rename_i nss h2
        cases hz
        refine ⟨_, cr_sortTs hr, fun S H v Q ex d1 q => ?_⟩
        obtain ⟨p1, v1, rfl, e1, d1⟩ := d1
        rw [tupsD_eq h2] at d1
        obtain ⟨k1, k2⟩ := keys_eq d1
        refine ⟨p1, v1, keyI S, rfl, SqL.of e1, fun x hx => ?_, ?_, fun ys p y1 y2 hp => ?_⟩
        · obtain ⟨ns, hn⟩ := k2 x hx
          obtain ⟨t, t1, t2⟩ := dq_tI hn
          exact ⟨t, t1, by rw [keyI_eq hn]; exact Tp.sq (Tp.ext ex t2)⟩
        · cases v1 with
          | nil => cases k1
          | cons x0 xr =>
            rw [List.map_cons] at k1
            exact ⟨x0, xr, rfl, (List.cons.inj k1).1⟩
        · rw [k1] at y2
          have dy := dqa_keys (S := S) (ys := ys) fun x hx => k2 x (y1.mem_iff.mp hx)
          rw [y2] at dy
          exact new ex hp dy q
      · cases hz
  · split at hz
    · rename_i ns h1
      cases hz
      refine ⟨_, cr_sortTI, fun S H v Q ex d1 q => ?_⟩
      obtain ⟨p1, v1, rfl, e1, d1⟩ := dq_tup d1
      refine ⟨p1, ns, rfl, ?_, fun p hp => new ex hp (dqa_of_ints S _) q⟩
      rw [← dqa_ints d1 h1]
      exact Tp.sq (Tp.ext ex e1)
    · cases hz
end
end Sd

/-! Lambdas handed to a def that tells which error they raise. -/
namespace Sd
open PySem PySem.Spec PyProof.Rows L2
open Evl (Ex)
variable [TabSet]
/-! ### an expression that may raise -/
def SR (K : PySem.W.Frag) (mg : Str → Option Value) (F : Fr) (E : XK) (fr : DE → Option (Res × DE)) : TE := fun σ H Q => ∃ S δ r δ', RSt K F S H σ δ ∧ fr δ = some (r, δ') ∧ match r with
  | .ret d => ∀ v S' H', Stp S H S' H' σ δ δ' → RSt K F S' H' σ δ' → Dq S' v d → Q v H'
  | .exc c _ => ∀ S' H' cv dd, Stp S H S' H' σ δ δ' → RSt K F S' H' σ δ' → mg c = some cv → E cv dd H'
omit [TabSet] in
def rCall (m : MF) (fa : MA) : DE → Option (Res × DE) := fun δ => match fa δ with
  | some (ds, δ') => match m ds with
    | some r => some (r, δ')
    | none => none
  | none => none
theorem r_call {X : Cx} {F : Fr} {e : Expr} {es : List Expr} {pos p : Pos} {fa : MA} {x : Str} {k : Nat} {m : MF} {E : XK} (tk : Takes X (fun cls d _ H => E cls d H)) (D0 : DefOk X.prog X.w X.K X.mg X.base x k (spF X.mg m)) (hr : Room k X.A) (ha : PA X (e :: es) (SA X.K F fa)) (hg : Gl X x := by rfl) (hdb : (x == ("__debug__" : Str)) = false := by decide)
    (he : starEach (e :: es) X.env = (false, eval e X.env) :: starEach es X.env := by rfl) (hpl : (backTo pos (starEach es X.env)).any (·.1) = false := by rfl) :
    PE X (.Call (.Name x p) (e :: es) [] pos) (SR X.K X.mg F E (rCall m fa)) := by
  obtain ⟨fn, fd, ps, FO, hm, hk, hb⟩ := D0.ex
  refine ⟨fun pins s σ H Q I hw => (pe_callS FO hr hg hm hk hb (fun σ => passAt tk σ) ha hdb he hpl).run pins s σ H Q I ?_⟩
  obtain ⟨S, δ, r, δ', R, hf, q⟩ := hw
  unfold rCall at hf
  split at hf
  · rename_i ds δ1 h1
    refine ⟨S, δ, ds, δ1, R, h1, fun vs S1 H1 s1 R1 d1 => ?_⟩
    split at hf
    · rename_i r0 h2
      cases hf
      refine ⟨S1, ds, _, R1.sub, d1, h2, ?_⟩
      cases r with
      | ret d => exact fun v S2 H2 g2 d2 => q v S2 H2 (s1.trans (Stp.grow g2)) (R1.grow g2) d2
      | exc c p =>
        cases p with
        | none => exact fun S2 H2 cv g2 hc => q S2 H2 cv none (s1.trans (Stp.grow g2)) (R1.grow g2) hc
        | some p => exact fun S2 H2 cv dd g2 hc h0 hdd => q S2 H2 cv (some dd) (s1.trans (Stp.grow g2)) (R1.grow g2) hc
    · cases hf
  · cases hf
/-! ### the def that tells -/
omit [TabSet] in
def wHands (K : PySem.W.Frag) (Q : VK) : List (Value × Str) → XK
  | [] => fun _ _ _ => False
  | (c, ret) :: r => fun cls d H => ∃ b, PySem.W.exmOne K cls c = some b ∧ (b = true → Q (.str ret) H) ∧ (b = false → wHands K Q r cls d H)
omit [TabSet] in
def TTm (K : PySem.W.Frag) (l : List (Value × Str)) (dflt : Str) : (XK → Hp → VK → Prop) → Hp → VK → Prop := fun tl H Q => tl (wHands K Q l) H fun _ H' => Q (.str dflt) H'
omit [TabSet] in
def tStr (ret : Str) : Addr → Value → Option Addr → TS := fun _ _ _ => tRet (tC (.str ret))
omit [TabSet] in
theorem hd_cons {Z : Cx} {x ret : Str} {c : Value} {j : Nat} {np p5 p6 p7 : Pos} {hds : List ExceptHandler} {l : List (Value × (Addr → Value → Option Addr → TS))} (hc : Names Z x c) (r : HdsOk Z hds l) :
    HdsOk Z (.ExceptHandler (some (.Name x np)) none [.Return (some (.Constant (.str ret) j p5)) p6] p7 :: hds) ((c, tStr ret) :: l) :=
  .cons hc (fun a oe cls d pn _ _ => pss_one (ps_ret pe_str)) r
omit [TabSet] in
theorem many_hands {K : PySem.W.Frag} {D : Ends} {Q : VK} (hQ : ∀ v H, Q v H → D.rt v H) {σ : L2.St} : ∀ (l : List (Value × Str)) (cls : Value) (d : Option Addr) (H : Hp), wHands K Q l cls d H → wMany K (fun _ _ _ _ => False) D (l.map fun p => (p.1, tStr p.2)) cls d σ H
  | [], _, _, _, h => h
  | (c, ret) :: r, cls, d, H, ⟨b, h1, h2, h3⟩ => ⟨b, h1, fun e _ _ => hQ _ _ (h2 e), fun e => many_hands hQ r cls d H (h3 e)⟩
omit [TabSet] in
/-- try: a() / except ..: return .. / return dflt -/
theorem told_many {X : Cx} {Ng : List Str} {x a q dflt : Str} {sg : Scope} {g : Addr} {cdg : Value} {h0 : ExceptHandler} {hds : List ExceptHandler} {l : List (Value × Str)} {j : Nat} {p1 p2 p3 p5 p6 p8 : Pos}
    (all : ∀ (s : Shared) (H : Hp), HdsOk (cxOf C8.CX0 X.prog X.w X.K X.mg X.base Ng x sg g cdg X.A X.stack s H C8.E0).nox (h0 :: hds) (l.map fun p => (p.1, tStr p.2)))
    (hs0 : ∀ f : Addr, (L2.start Ng [V.ref f])[0]? = some (some (V.ref f)))
    (hsw : ∀ env : Env, swapsWith (.Call (.Name a p1) [] [] p2) none p3.line env = pure false := by intro _; rfl) :
    LamX.GivesTo X Ng x sg g cdg [.Try [.Expr (.Call (.Name a p1) [] [] p2) p3] (h0 :: hds) [] [] p8, .Return (some (.Constant (.str dflt) j p5)) p6] a q (TTm X.K l dflt) := by
  intro f c' s H Q tl act hc h
  refine ⟨_, pss_cons (ps_try_many (X := (cxOf C8.CX0 X.prog X.w X.K X.mg X.base Ng x sg g cdg X.A X.stack s H C8.E0).nox) (Wout := fun _ _ _ _ => False)
      (tb := fun W D σ H => ∃ Ech : XK, (∀ cls d σ' H', Ech cls d H' → W cls d σ' H') ∧ σ[0]? = some (some (.ref f)) ∧ H c' = some (LamX.CodeO c' q) ∧ tl Ech H (fun _ H' => D.nx σ H'))
      rfl rfl LamX.takes0 (fun W pn xe tk _ => ?_) (all s H)) (pss_one (ps_ret pe_str)), ?_⟩
  · refine ⟨fun pins s' σ H' D I h' => ?_⟩
    obtain ⟨Ech, hW, h1, h2, h3⟩ := h'
    have hp := act W pn xe Ech p1 p2 tk hW
    exact (pss_one (ps_expr (pos := p3) hp (hsw _))).run pins s' σ H' D I ⟨h1, h2, h3⟩
  · exact ⟨wHands X.K Q l, fun cls d σ' H' z => many_hands (fun _ _ z => z) l cls d H' z, hs0 f, hc, h⟩
/-- the def's code object at c, its table at P, the lambdas' name -/
structure LamAt (base : Heap) (mg : Str → Option Value) (c P : Addr) (q : Str) : Prop where
  tb : LamX.TabB base mg c P
  mem : (P, q) ∈ TabSet.T
  uq : ∀ p ∈ TabSet.T, p.1 = P → p.2 = q
/-- which class is caught by which clause -/
structure MtOk (K : PySem.W.Frag) (mg : Str → Option Value) (mt : Str → Str → Option Bool) : Prop where
  ok : ∀ c h b, mt c h = some b → ∃ cv C, mg c = some cv ∧ mg h = some C ∧ PySem.W.exmOne K cv C = some b
omit [TabSet] in
def pick (mt : Str → Str → Option Bool) (c : Str) : List (Str × Str) → Option Str
  | [] => none
  | (h, r) :: rest => match mt c h with
    | some true => some r
    | some false => pick mt c rest
    | none => none
omit [TabSet] in
def fTold (mt : Str → Str → Option Bool) (hands : List (Str × Str)) (dflt : Str) (fr : DE → Option (Res × DE)) : M := fun δ => match fr δ with
  | some (.ret _, δ') => some (.str dflt, δ')
  | some (.exc c _, δ') => match pick mt c hands with
    | some r => some (.str r, δ')
    | none => none
  | none => none
omit [TabSet] in
def HandsAt (mg : Str → Option Value) : List (Str × Str) → List (Value × Str) → Prop
  | [], [] => True
  | (h, r) :: a, (c, s) :: b => mg h = some c ∧ r = s ∧ HandsAt mg a b
  | _, _ => False
omit [TabSet] in
theorem pick_hands {K : PySem.W.Frag} {mg : Str → Option Value} {mt : Str → Str → Option Bool} {Q : VK} {c ret : Str} {cv : Value} {dd : Option Addr} {H : Hp} (M0 : MtOk K mg mt) (hc : mg c = some cv) (hq : Q (.str ret) H) :
    ∀ (hands : List (Str × Str)) (l : List (Value × Str)), HandsAt mg hands l → pick mt c hands = some ret → wHands K Q l cv dd H
  | [], _, _, h => by cases h
  | (h, r) :: a, [], z, _ => z.elim
  | (h, r) :: a, (C, s) :: b, ⟨z1, z2, z3⟩, e => by
    subst z2
    unfold pick at e
    split at e
    · rename_i e1
      cases e
      obtain ⟨cv', C', k1, k2, k3⟩ := M0.ok _ _ _ e1
      rw [hc] at k1
      rw [z1] at k2
      cases k1
      cases k2
      exact ⟨true, k3, fun _ => hq, fun z => (by cases z)⟩
    · rename_i e1
      obtain ⟨cv', C', k1, k2, k3⟩ := M0.ok _ _ _ e1
      rw [hc] at k1
      rw [z1] at k2
      cases k1
      cases k2
      exact ⟨false, k3, fun z => (by cases z), fun _ => pick_hands M0 hc hq a b z3 e⟩
    · cases e
theorem RSt.tabled {K : PySem.W.Frag} {F : Fr} {S H H1 : Hp} {σ : L2.St} {δ : DE} (R : RSt K F S H σ δ) (t0 : tabs F.S0 F.H0) (eN : LamX.ExtN H H1) (t1 : LamX.Tabs TabSet.T H1) (dm : ∀ b o, H b = some o → ∃ o', H1 b = some o') : RSt K F S H1 σ δ ∧ Stp S H S H1 σ δ δ := by
  have ht := R.tb0 t0
  have up : ∀ b o, S b = some o → H1 b = some o := fun b o h => eN b o (R.sub b o h) (ht.2 b o h)
  refine ⟨⟨up, fun b o h nt n => eN b o (R.base b o h nt n) nt, fun b o h => ?_, fun _ => ⟨t1, ht.2⟩, R.s0, R.out, fun b h => ?_, R.len, fun i x s h1 h2 => ?_, R.sep, R.pin⟩, ⟨Ex.refl S, fun _ _ _ => rfl, fun b o h nt _ => eN b o h nt, dm, fun _ xs h => ⟨xs, h⟩, fun t => ⟨t1, t.2⟩⟩⟩
  · obtain ⟨o', h'⟩ := R.dom0 b o h
    exact dm b o' h'
  · obtain ⟨o, h'⟩ := R.iop b h
    exact dm b o h'
  · have z := R.slot i x s h1 h2
    cases s with
    | no => trivial
    | sh d => exact z
    | scr ns => exact z
    | ow xs =>
      obtain ⟨a, vs, k1, k2, k3, k4, k5⟩ := z
      exact ⟨a, vs, k1, k2, k3, eN _ _ k4 (ob_nt k5), k5⟩
/-! ### the lambda made: what was there is there -/
omit [TabSet] in
theorem lam_made {X : Cx} {pins : List (Addr × Obj)} {σ : L2.St} {H : Hp} {s : Shared} {T : List (Addr × Str)} {c P : Addr} {q : Str} {params : Arguments} {body : Expr} {scope : Scope} {pos : Pos} {E : Value → Shared → Prop} {Q : Value → Shared → Prop}
    (hq : X.env.qual ++ "<lambda>" = q) (I : Inv X pins σ H s) (TB : LamX.TabB X.base X.mg c P) (hcode : X.env.code = .ref c)
    (hm : (P, q) ∈ T) (hu : ∀ p ∈ T, p.1 = P → p.2 = q) (hT : LamX.Tabs T H) (hdef : defaultsOf params X.env = ([], [])) (hfree : ∀ y ∈ scope.names, y.2 = .free → ∃ c, X.env.cells.lookup y.1 = some c)
    (h : ∀ (f c' : Addr) (pm ctv : Value) (H1 : Hp) (s' : Shared), Inv X pins σ H1 s' → LamX.ExtN H H1 → LamX.Tabs T H1 → (∀ b o, H b = some o → ∃ o', H1 b = some o') →
      s'.heap.get? f = some (PySem.W.kla_obj "<lambda>" q params body scope (cloFrom X.env.cells scope.names []) pm c' ctv) → H1 f = none → f ∉ frs X.stack → H1 c' = some (LamX.CodeO c' q) → Q (.ref f) s') :
    wpAny (model X.prog X.w) X.A (eval (.Lambda params body scope pos) X.env) Q E s := by
  subst hq
  have frame : ∀ g, s.heap.objs.size ≤ g → g ∉ frs X.stack := fun g hg z => (List.mem_cons.mp (I.stkSub _ z)).elim (fun e => Nat.lt_irrefl _ (Nat.lt_of_lt_of_le (by rw [e]; exact I.lt) hg)) (fun e => I.nofs hg e)
  obtain ⟨ps, tH, tr, tn⟩ := hT _ hm
  have bi := TB.bm.keeps I.bk
  have cd := TB.code.keeps I.bk
  have gl := I.mod.glob.keeps I.bk
  have tG : s.heap.get? P = some { cls := .none, data := .fields ps } := I.hok P _ tH
  refine PySem.W.kla_eval hdef ?_
  cases found : codeAmong pos ps.toList with
  | some cv =>
    obtain ⟨c', rfl, hco⟩ := tn pos cv found
    refine PySem.W.kla_makeFunctionHit (mg := X.mg) (c := c) (P := P) (ps := ps) (closure_ok hfree) I.ok.glob gl hcode cd tG tr found bi fun ctv h' tk hx hsz => ?_
    refine h h'.objs.size c' ((X.mg "__name__").getD .none) ctv H _ (I.kept fun b o e => Heap.get?_push_of_some _ (hx b o e)) (LamX.ExtN.refl H) hT (fun b o e => ⟨o, e⟩) (Heap.get?_push_size _ rfl) (I.hok.fresh hsz) (frame _ hsz) hco
  | none =>
    refine PySem.W.kla_makeFunction (mg := X.mg) (c := c) (P := P) (ps := ps) (closure_ok hfree) I.ok.glob gl hcode cd tG tr found TB.gP bi fun c' ctv h' tk hx hge hlt hrec htb => ?_
    obtain ⟨c2, oc, vs, t, e2, hoc, hd, hv⟩ := hrec
    cases e2
    have big : s.heap.objs.size ≤ h'.objs.size := by omega
    have fc : H c' = none := I.hok.fresh hge
    have stay : LamX.ExtN H (upd (upd H P (.tbl (ps ++ #[rawInt pos.line, rawInt pos.col, .ref c']))) c' (LamX.CodeO c' (X.env.qual ++ "<lambda>"))) := fun b o e n => by
      have b1 : b ≠ c' := ne_of_none e fc
      have b2 : b ≠ P := fun z => by
        subst z
        rw [tH] at e
        cases e
        exact n ps rfl
      rw [upd_ne b1, upd_ne b2]
      exact e
    have lst : (ps ++ #[rawInt pos.line, rawInt pos.col, .ref c']).toList = ps.toList ++ [rawInt pos.line, rawInt pos.col, .ref c'] := by simp
    refine h h'.objs.size c' ((X.mg "__name__").getD .none) ctv _ _
      (LamX.inv_table (t' := tk) (more := #[rawInt pos.line, rawInt pos.col, .ref c']) (h' := h'.push (PySem.W.kla_obj "<lambda>" (X.env.qual ++ "<lambda>") params body scope (cloFrom X.env.cells scope.names []) ((X.mg "__name__").getD .none) c' ctv)) I tH
        (fun b o hb e => Heap.get?_push_of_some _ (hx b o hb e)) (Heap.get?_push_of_some _ htb) hge ⟨oc, vs, t, Heap.get?_push_of_some _ hoc, hd, hv⟩)
      stay (fun p hp => ?_) (fun b o e => ?_) (Heap.get?_push_size _ rfl) ?_ (frame _ big) upd_same
    · obtain ⟨ps', a1, a2, a3⟩ := hT p hp
      by_cases hb : p.1 = P
      · rw [hu p hp hb, hb]
        refine ⟨_, (upd_ne (ne_of_none tH fc)).trans upd_same, by rw [lst]; exact PySem.TriplesOk_snoc _ _ _ _ tr, fun p' cv hcv => ?_⟩
        rw [lst] at hcv
        refine (LamX.among_app _ tr hcv).elim (fun z => ?_) (fun z => ⟨c', z, upd_same⟩)
        obtain ⟨c0, e1, e2⟩ := tn p' cv z
        exact ⟨c0, e1, stay _ _ e2 LamX.codeO_ne⟩
      · refine ⟨ps', (upd_ne (ne_of_none a1 fc)).trans ((upd_ne hb).trans a1), a2, fun p' cv hcv => ?_⟩
        obtain ⟨c0, e1, e2⟩ := a3 p' cv hcv
        exact ⟨c0, e1, stay _ _ e2 LamX.codeO_ne⟩
    · by_cases hb : b = P
      · subst hb
        exact ⟨_, (upd_ne (ne_of_none e fc)).trans upd_same⟩
      · exact ⟨o, (upd_ne (ne_of_none e fc)).trans ((upd_ne hb).trans e)⟩
    · refine (upd_ne (Nat.ne_of_gt hlt)).trans ((upd_ne ?_).trans (I.hok.fresh big))
      exact Nat.ne_of_gt (Nat.lt_of_lt_of_le (Heap.lt_size tG) big)
omit [TabSet] in
/-- x(lambda: body), x the def that tells -/
theorem pe_told {X : Cx} {T : List (Addr × Str)} {TT : (XK → Hp → VK → Prop) → Hp → VK → Prop} {x a q : Str} {st : Stmt} {c P : Addr} {k : Nat} {Ng : List Str} {params : Arguments} {body : Expr} {scope : Scope} {t : XK → TE} {p lpos pos : Pos}
    (FA : FunAt X.K X.mg x st [a]) (hg : Gl X x) (Sg : FnScope Ng [a] (defScope st)) (hNg : Ng[0]? = some a) (hva : Vis (defScope st) a)
    (hG : ∀ g cdv, LamX.GivesTo X Ng x (defScope st) g cdv (defBody st) a q TT) (hq : X.env.qual ++ "<lambda>" = q)
    (TB : LamX.TabB X.base X.mg c P) (hcode : X.env.code = .ref c) (hmT : (P, q) ∈ T) (hu : ∀ p ∈ T, p.1 = P → p.2 = q) (hr : Room (k + 2) X.A) (L : LamX.LamS X.env.scope scope) (hdef : defaultsOf params X.env = ([], []))
    (hbind : ∀ (q : Str) (cl : List (Str × Addr)) (pm cv ctv : Value), bindArgs (PySem.W.kla_fn "<lambda>" q params body scope cl pm cv ctv) ⟨[], []⟩ = pure [])
    (hbody : ∀ (A : Around) (outer : List Env) (s : Shared) (H : Hp) (E : XK) (f c' : Addr), Room k (A.deeper (LamX.lamEnv X scope s.heap.objs.size f c')) → PE (LamX.lamCx X A outer s H E scope f c') body (t E))
    (hdb : (x == ("__debug__" : Str)) = false := by decide) (hd : (a == ("__debug__" : Str)) = false := by decide) (hcd : (a == ("__classdict__" : Str)) = false := by decide) :
    PE X (.Call (.Name x p) [.Lambda params body scope lpos] [] pos) (fun σ H Q => LamX.Tabs T H ∧ ∀ H1, LamX.ExtN H H1 → LamX.Tabs T H1 → (∀ b o, H b = some o → ∃ o', H1 b = some o') → TT (fun E H' Q' => t E σ H' Q') H1 Q) := by
  subst hq
  obtain ⟨g, fd, ⟨⟨oc, od, kV, doc, pm, an, cdv, ct, osl, rfl, lk, hcg⟩, hk⟩, hm, hb⟩ := FA.ex
  refine ⟨fun pins s σ H Q I ⟨hT, h⟩ => wpAny_Call_Name_kw (ld_glob I hg hm (PySem.W.callWith_K (h₀ := X.base) I.ok.mod.kin hk ?_ (by rfl) (by rfl)) hdb)⟩
  refine Calls.spliced_cons (s := s) (lam_made (T := T) rfl I TB hcode hmT hu hT hdef (L.has I.ok) fun f c' pm' ctv H1 s' I1 eN T1 dm hf hfn hfr hco => Calls.spliced_nil ⟨I1.kIn, wpAny_call ?_⟩)
  have rc : codeAny (model X.prog X.w) X.A (.call (.ref g) ⟨[.ref f], []⟩) (CR C8.CX0 X.stack X.prog X.w H1 s' Q C8.E0) s' :=
    LamX.run_ofS (N := Ng) (ps := [a]) (us := [.ref f]) (vs := [.ref f]) lk hcg Sg hr I1.env0 (hb s' [.ref f] I1.kIn rfl) (.cons rfl .nil) rfl fun hr' => by
      obtain ⟨t', ht', hq'⟩ := hG g cdv f c' s' H1 Q (fun E H' Q' => t E σ H' Q') (fun W pn xe E p1 p2 tk hW => LamX.pe_act (i := 0) I1 L hf hfn hfr (hbind _ _ _ _ _) tk hW hr' (fun A outer s H hr2 => hbody A outer s H E f c' hr2) hNg hva hd hcd) hco (h H1 eN T1 dm)
      exact ⟨t', ht'.nox, hq'⟩
  refine codeAny_mono rc fun r s2 z => ?_
  cases r with
  | error e => exact (show False from z).elim
  | ok fl =>
    cases fl with
    | ret u => exact I1.after z
    | next => exact False.elim z
    | brk => exact False.elim z
    | cont => exact False.elim z
theorem e_lam {X : Cx} {F : Fr} {x a q dflt : Str} {st : Stmt} {c P : Addr} {k : Nat} {Ng : List Str} {params : Arguments} {body : Expr} {scope : Scope} {p lpos pos : Pos} {fr : DE → Option (Res × DE)} {mt : Str → Str → Option Bool} {hands : List (Str × Str)} {l : List (Value × Str)}
    (t0 : tabs F.S0 F.H0) (M0 : MtOk X.K X.mg mt) (HA : HandsAt X.mg hands l) (FA : FunAt X.K X.mg x st [a]) (Sg : FnScope Ng [a] (defScope st))
    (hG : ∀ g cdv, LamX.GivesTo X Ng x (defScope st) g cdv (defBody st) a q (TTm X.K l dflt)) (LA : LamAt X.base X.mg c P q) (hr : Room (k + 2) X.A)
    (hbody : ∀ (A : Around) (outer : List Env) (s : Shared) (H : Hp) (E : XK) (f c' : Addr), Room k (A.deeper (LamX.lamEnv X scope s.heap.objs.size f c')) → PE (LamX.lamCx X A outer s H E scope f c') body (SR X.K X.mg F E fr))
    (hq : X.env.qual ++ "<lambda>" = q := by rfl) (hcode : X.env.code = .ref c := by rfl) (hg : Gl X x := by rfl) (hNg : Ng[0]? = some a := by rfl) (hva : Vis (defScope st) a := by first | exact Or.inl rfl | exact Or.inr (Or.inl rfl) | exact Or.inr (Or.inr rfl))
    (L : LamX.LamS X.env.scope scope := by exact LamX.lamS_by (by rfl)) (hdef : defaultsOf params X.env = ([], []) := by rfl)
    (hbind : ∀ (q : Str) (cl : List (Str × Addr)) (pm cv ctv : Value), bindArgs (PySem.W.kla_fn "<lambda>" q params body scope cl pm cv ctv) ⟨[], []⟩ = pure [] := by intros; rfl)
    (hdb : (x == ("__debug__" : Str)) = false := by decide) (hd : (a == ("__debug__" : Str)) = false := by decide) (hcd : (a == ("__classdict__" : Str)) = false := by decide) :
    PE X (.Call (.Name x p) [.Lambda params body scope lpos] [] pos) (SE X.K F (fTold mt hands dflt fr)) := by
  refine pe_of fun S δ d δ' σ H Q R hf qq => ⟨_, pe_told FA hg Sg hNg hva hG hq LA.tb hcode LA.mem LA.uq hr L hdef hbind hbody hdb hd hcd, (R.tb0 t0).1, fun H1 eN t1 dm => ?_⟩
  obtain ⟨R1, s1⟩ := R.tabled t0 eN t1 dm
  unfold fTold at hf
  split at hf
  · rename_i d0 δ1 h1
    cases hf
    exact ⟨S, δ, _, _, R1, h1, fun v S2 H2 s2 R2 _ => qq _ S2 H2 (s1.trans s2) R2 (.str dflt)⟩
  · rename_i c0 p0 δ1 h1
    split at hf
    · rename_i r0 h2
      cases hf
      exact ⟨S, δ, _, _, R1, h1, fun S2 H2 cv dd s2 R2 hc => pick_hands M0 hc (qq _ S2 H2 (s1.trans s2) R2 (.str r0)) hands l HA h2⟩
    · cases hf
  · cases hf
end Sd

/-! The law itself; facts as lists. -/
namespace Sd
open PySem PySem.Spec PyProof.Rows L2
open Evl (Ex)
def hv (mg : Str → Option Value) (hands : List (Str × Str)) : List (Value × Str) := hands.map fun p => ((mg p.1).getD .none, p.2)
theorem getD_some {mg : Str → Option Value} {x : Str} (h : ∃ c, mg x = some c) : mg x = some ((mg x).getD .none) := by
  obtain ⟨c, e⟩ := h
  rw [e]
  rfl
def KnownAt (mg : Str → Option Value) : List (Str × Str) → Prop
  | [] => True
  | p :: r => (∃ c, mg p.1 = some c) ∧ KnownAt mg r
theorem hands_at {mg : Str → Option Value} : ∀ {hands : List (Str × Str)}, KnownAt mg hands → HandsAt mg hands (hv mg hands)
  | [], _ => trivial
  | (h, r) :: a, ⟨z1, z2⟩ => ⟨getD_some z1, rfl, hands_at z2⟩
def mtOf (tab : List ((Str × Str) × Bool)) (c h : Str) : Option Bool := (tab.find? fun p => p.1.1 == c && p.1.2 == h).map (·.2)
def FactsAt (K : PySem.W.Frag) (mg : Str → Option Value) : List ((Str × Str) × Bool) → Prop
  | [] => True
  | p :: r => (∃ cv C, mg p.1.1 = some cv ∧ mg p.1.2 = some C ∧ PySem.W.exmOne K cv C = some p.2) ∧ FactsAt K mg r
theorem facts_mem {K : PySem.W.Frag} {mg : Str → Option Value} : ∀ {tab : List ((Str × Str) × Bool)}, FactsAt K mg tab → ∀ p ∈ tab, ∃ cv C, mg p.1.1 = some cv ∧ mg p.1.2 = some C ∧ PySem.W.exmOne K cv C = some p.2
  | q :: r, ⟨z1, z2⟩, p, hp => by
    rcases List.mem_cons.mp hp with rfl | hp
    · exact z1
    · exact facts_mem z2 p hp
theorem mt_ok {K : PySem.W.Frag} {mg : Str → Option Value} {tab : List ((Str × Str) × Bool)} (h : FactsAt K mg tab) : MtOk K mg (mtOf tab) := ⟨fun c x b e => by
  unfold mtOf at e
  cases hf : tab.find? (fun p => p.1.1 == c && p.1.2 == x) with
  | none =>
    rw [hf] at e
    cases e
  | some p =>
    rw [hf] at e
    cases e
    have h1 := List.find?_some hf
    rw [Bool.and_eq_true] at h1
    have e1 : p.1.1 = c := eq_of_beq h1.1
    have e2 : p.1.2 = x := eq_of_beq h1.2
    have h2 := facts_mem h p (List.mem_of_find?_eq_some hf)
    rw [e1, e2] at h2
    exact h2⟩
variable [TabSet]
/-! ### the law -/
omit [TabSet] in
def mOfL (n : Nat) (body : MS) (ns : List Int) : Option D := match body (.scr ns :: List.replicate (n - 1) .no) with
  | some (.rt d _) => some d
  | _ => none
def spL (K : PySem.W.Frag) (m : List Int → Option D) : Sp := fun vs H Q _ => ∃ S a ns d, vs = [.ref a] ∧ Ex S H ∧ tabs S H ∧ SqL K S a (ns.map V.int) ∧ m ns = some d ∧ ∀ v S' H', Dq S' v d → Q v H'
section
variable {P : Program} {w : World} {K : PySem.W.Frag} {mg : Str → Option Value} {base : Heap}
theorem law_fn {x p : Str} {st : Stmt} {N : List Str} {n k : Nat} {body : MS} {f c : Addr} {oc : Value} {od an : Option Addr} {osl : Array (Option Value)} {kV doc pm ct : Value}
    (lk : K.lookup f = some ⟨oc, od, .func (PySem.W.fnOf x x (defArgs st) (defBody st) (defScope st) .none kV doc pm an (.ref c) ct), osl⟩) (hcd : PySem.W.codeIn K (.ref c) x = true) (Sc : FnScope N [p] (defScope st)) (hn : N.length = n) (h1 : 1 ≤ N.length)
    (hb : ∀ (A : Around) (outer : List Env) (s : Shared) (H : Hp) (E : XK) (F : Fr), tabs F.S0 F.H0 → Room k (A.deeper (envOfC x (defScope st) s.heap.objs.size f (.ref c))) →
      PSs (cxOf (L2.CX P w) P w K mg base N x (defScope st) f (.ref c) A outer s H E) (defBody st) (SS K mg F (fun cls d _ H => E cls d H) body)) :
    FnOk P w K mg base (L2.CX P w) (k + 1) f (PySem.W.fnOf x x (defArgs st) (defBody st) (defScope st) .none kV doc pm an (.ref c) ct) [p] (spL K (mOfL n body)) := by
  subst hn
  refine fn_of lk hcd Sc (fun vs H Q E h => ?_) fun A outer s H vs Q E hr h => ?_
  · obtain ⟨S, a, ns, d, rfl, _⟩ := h
    rfl
  · obtain ⟨S, a, ns, d, rfl, ex, t0, hq, hm, q⟩ := h
    refine ⟨_, hb A outer s H E ⟨H, S, none⟩ t0 hr, ?_⟩
    unfold mOfL at hm
    split at hm
    · rename_i d0 δ' hbd
      cases hm
      exact ⟨S, _, _, start_scr rfl ex hq h1 rfl, hbd, fun v σ' S' H' _ _ dv => q v S' H' dv⟩
    · cases hm
end
end Sd
namespace Sd
open PySem PySem.Spec PyProof.Rows L2
open Evl (Ex)
section
variable {K : PySem.W.Frag} {mg : Str → Option Value} {h : Heap}
theorem funAt_of {x : Str} {st : Stmt} {ps : List Str} {f : Addr} {oc : Value} {od an : Option Addr} {osl : Array (Option Value)} {kV doc pm cdv ct : Value} (KX : K.In h) (G : h.Ns mainGlobals mg) (a : PySem.W.nsIn K mainGlobals x = some (some (.ref f)))
    (l : K.lookup f = some ⟨oc, od, .func (PySem.W.fnOf x x (defArgs st) (defBody st) (defScope st) .none kV doc pm an cdv ct), osl⟩) (c : PySem.W.codeIn K cdv x = true) (k : PySem.W.keepIn K (.ref f) = true)
    (hb : ∀ (kV doc pm : Value) (an : Option Addr) (cdv ct : Value) (us : List Value), us.length = ps.length → bindArgs (PySem.W.fnOf x x (defArgs st) (defBody st) (defScope st) .none kV doc pm an cdv ct) ⟨us, []⟩ = pure (ps.zip us)) : FunAt K mg x st ps :=
  ⟨⟨f, _, fun_mk l c k, PySem.W.mg_of KX G a, (fun_mk l c k).binds hb⟩⟩
theorem excOk_of {x : Str} {C : Addr} (KX : K.In h) (G : h.Ns mainGlobals mg) (a : PySem.W.nsIn K mainGlobals x = some (some (.ref C))) (e : PySem.W.excIn K C [.type "ValueError", .type "Exception", .type "BaseException", .type "object"] "ValueError.__new__" = true) (k : PySem.W.keepIn K (.ref C) = true)
    (s : PySem.W.subIn K (.ref C) (.type "BaseException") = some true) (t : PySem.W.typeIn K (.ref C) = some (.type "type")) : ExcOk K mg x := ⟨⟨C, PySem.W.mg_of KX G a, e, k, s, t⟩⟩
theorem known_of {x : Str} {C : Addr} (KX : K.In h) (G : h.Ns mainGlobals mg) (a : PySem.W.nsIn K mainGlobals x = some (some (.ref C))) : ∃ c, mg x = some c := ⟨_, PySem.W.mg_of KX G a⟩
theorem match_of {x y : Str} {C D : Addr} {b : Bool} (KX : K.In h) (G : h.Ns mainGlobals mg) (a : PySem.W.nsIn K mainGlobals x = some (some (.ref C))) (a' : PySem.W.nsIn K mainGlobals y = some (some (.ref D))) (e : PySem.W.exmOne K (.ref C) (.ref D) = some b) :
    ∃ cv C, mg x = some cv ∧ mg y = some C ∧ PySem.W.exmOne K cv C = some b := ⟨_, _, PySem.W.mg_of KX G a, PySem.W.mg_of KX G a', e⟩
def noTbl (H : Hp) : Hp := fun b => match H b with
  | some (.tbl _) => none
  | o => o
theorem noTbl_of {H : Hp} {b : Addr} {o : HO} : noTbl H b = some o → H b = some o ∧ ∀ ps, o ≠ .tbl ps := by
  unfold noTbl
  intro e
  split at e
  · cases e
  · rename_i n
    exact ⟨e, fun ps z => n ps (by rw [e, z])⟩
theorem noTbl_at {H : Hp} {b : Addr} {o : HO} (e : H b = some o) (n : ∀ ps, o ≠ .tbl ps) : noTbl H b = some o := by
  unfold noTbl
  split
  · rename_i ps z
    rw [e] at z
    cases z
    exact absurd rfl (n ps)
  · exact e
theorem law_start [TabSet] {H : Hp} {a : Addr} {ns : List Int} {m : List Int → Option D} {E : XK} (hT : ∀ p ∈ TabSet.T, H p.1 = some (.tbl #[])) (hS : SqL K H a (ns.map V.int)) (hm : m ns = some (.bool true)) : spL K m [.ref a] H (fun v _ => v = .bl true) E := by
  refine ⟨noTbl H, a, ns, .bool true, rfl, fun b o e => (noTbl_of e).1, ⟨fun p hp => LamX.TabS.nil (hT p hp), fun b o e => (noTbl_of e).2⟩, ?_, hm, fun v S' H' dv => by cases dv; rfl⟩
  rcases hS with (z | z) | z
  · exact .inl (.inl (noTbl_at z nt_lst))
  · obtain ⟨o, z⟩ := z
    exact .inl (.inr ⟨o, noTbl_at z fun ps q => by cases q⟩)
  · exact .inr z
theorem no_cx {P : Program} {w : World} (H : Hp) (s : Shared) (e : Value) (s' : Shared) (h : L2.CX P w [] H s (fun _ _ _ => False) e s') : False := by
  obtain ⟨_, _, _, _, _, _, _, _, _, _, _, _, z⟩ := h
  exact z.elim
theorem global_of {x : Str} {i : Int} {u : Value} (KX : K.In h) (G : h.Ns mainGlobals mg) (a : PySem.W.nsIn K mainGlobals x = some (some u)) (r : RelV (.int i) u) : ∃ u, mg x = some u ∧ RelV (.int i) u := ⟨u, PySem.W.mg_of KX G a, r⟩
end
end Sd

/-! New lists by an operator. -/
namespace Sd
open PySem PySem.Spec PyProof.Rows L2
open Evl (Ex)
variable [TabSet]
section
variable {X : Cx} {F : Fr} {a b : Expr} {pos : Pos} {f g : M}
omit [TabSet] in
def lMul (f g : M) : MA := fun δ => match f δ with
  | some (.list xs, δ1) => match g δ1 with
    | some (.int k, δ2) => if 0 ≤ k ∧ k ≤ 1000 ∧ xs.length ≤ 100 then some ((List.replicate k.toNat xs).flatten, δ2) else none
    | _ => none
  | _ => none
/-- xs * k, the list kept as one's own -/
theorem f_mulL (ha : PE X a (SE X.K F f)) (hb : PE X b (SE X.K F g)) : PE X (.BinOp a .Mult b pos) (SF X.K F (lMul f g)) := by
  refine pf_of fun S δ ds δ' σ H Q R hf q => ⟨_, pe_op op_rep ha hb, ?_⟩
  unfold lMul at hf
  split at hf
  · rename_i xs δ1 h1
    split at hf
    · rename_i k δ2 h2
      split at hf
      · rename_i hc
        obtain ⟨c1, c2, c3⟩ := hc
        cases hf
        refine ⟨S, δ, _, δ1, R, h1, fun v S1 H1 s1 R1 d1 => ⟨S1, δ1, _, _, R1, h2, fun w S2 H2 s2 R2 d2 => ?_⟩⟩
        obtain ⟨p1, v1, rfl, e1, d1⟩ := dq_list d1
        have e2 := s2.s _ _ e1
        have d3 := dqa_ext s2.s d1
        have hlen := dqa_len d3
        refine ⟨p1, _, v1, rfl, dq_int d2, R2.sub _ _ e2, by omega, by omega, sz_of ?_, fun p hp => ?_⟩
        · rw [hlen]
          exact Nat.le_trans (Nat.mul_le_mul c3 (by omega : _ ≤ 1000)) (by decide)
        · obtain ⟨R4, s4, n4⟩ := lay_fresh (o := .lst (List.replicate k.toNat v1).flatten) R2 hp
          refine q p _ S2 _ ((s1.trans s2).trans s4) R4 ?_ n4 upd_same (dqa_rep d3 _)
          cases hz : H p with
          | none => rfl
          | some o =>
            obtain ⟨o', q'⟩ := (s1.trans s2).dom p o hz
            rw [hp] at q'
            cases q'
      · cases hf
    · cases hf
  · cases hf
end
end Sd

/-! enumerate over a tuple. -/
namespace Sd
open PySem PySem.Spec PyProof.Rows L2
open Evl (Ex)
/-- the tuple at a, walked with counts -/
def Itn (K : PySem.W.Frag) (a : Addr) : It where
  go k H := ∃ (vs : List V) (y : V), SqT K H a vs ∧ vs[k]? = some y
  yld k H u H' := ∃ T y, u = .ref T ∧ H T = none ∧ H' = upd H T (.tup [.int (k : Nat), y]) ∧ ∀ vs, SqT K H a vs → vs[k]? = some y
  stop k H := ∃ vs : List V, SqT K H a vs ∧ vs.length ≤ k
theorem turn_enumT {P : Program} {w : World} {K : PySem.W.Frag} {es : List Expr} {j : Nat} {tp : Pos} (a c r : Addr) :
    Turn P w K (.Tuple es j tp) (Itn K a) [c, r] c (fun k h => (∃ o, IsEnum h c r ((k : Nat) : Int) o) ∧ h.IsTupleIter r a k ∧ c ≠ r ∧ r ≠ a ∧ c ≠ a) where
  mem := List.mem_cons_self ..
  obj := fun k h st b hb => by
    obtain ⟨⟨o, he⟩, ⟨u, hu, hc, hd⟩, _⟩ := st
    rcases List.mem_cons.mp hb with z | z
    · rw [z]; exact ⟨_, he, fun v q => nomatch q⟩
    · rw [List.mem_singleton.mp z]; exact ⟨u, hu, fun v q => by rw [hd] at q; cases q⟩
  keep := fun k h h' st kp => by
    obtain ⟨⟨o, he⟩, hi, n1, n2, n3⟩ := st
    exact ⟨⟨o, kp c (by simp) _ he⟩, hi.at fun u q => kp r (by simp) u q, n1, n2, n3⟩
  item := by
    intro X hP hw hK hc k pins s σ H E I hf st hg
    subst hP hw hK
    obtain ⟨⟨o, he⟩, hi, n1, n2, n3⟩ := st
    obtain ⟨vs, y, hq, hy⟩ := hg
    obtain ⟨its, rv, p, hz⟩ := I.tuple hq
    obtain ⟨u, hu, ru⟩ := rv.get hy
    have c1 : c < s.heap.objs.size := Heap.lt_size he
    have c2 : r < s.heap.objs.size := by obtain ⟨_, q, _⟩ := hi; exact Heap.lt_size q
    have dr := Draws.tuple (prog := X.prog) (w := X.w) (A := X.A.in1) (I.ok.hd hc) r a n2.symm its.toArray
    have lt : k < its.toArray.size := by
      have := (List.getElem?_eq_some_iff.mp hu).1
      simpa using this
    refine wpAny_pyNext_enum_itemD dr he ⟨hi, p⟩ lt n1 (by simp [n1, n3]) fun z h1 tk hz1 ho hs hT hsz hk => ?_
    have ez : z = u := by
      have q : some z = some u := hz1.symm.trans (by simpa using hu)
      exact Option.some.inj q
    subst ez
    refine ⟨_, rfl, wpAny_letOwnedTupleGo_enum (s := { s with heap := h1, toks := tk + 1 }) ho fun h2 he2 sb => ?_⟩
    have hT2 : h2.get? s.heap.objs.size = some { cls := .type "tuple", data := .seq #[.int k tk, z] } := (sb.2 _ (Nat.ne_of_gt c1)).trans hT
    have new : ObjOk X.prog X.w (upd H s.heap.objs.size (.tup [.int (k : Nat), y])) h2 s.heap.objs.size (.tup [.int (k : Nat), y]) :=
      ⟨by show 2 ≤ sizeLine; decide, [.int k tk, z], .cons ⟨_, rfl⟩ (.cons ru .nil), ⟨_, hT2, rfl, _, rfl⟩⟩
    have I1 : Inv X pins σ (upd H s.heap.objs.size (.tup [.int (k : Nat), y])) { s with heap := h2, toks := tk + 1 } :=
      I.turnedNew (ch := [c, r]) (fun b ob hb q => (sb.2 b (fun e => hb (by simp [e]))).trans (hk b ob (fun e => hb (by simp [e])) (fun e => hb (by simp [e])) q)) hf (Nat.le_refl _) new
    refine ⟨.ref s.heap.objs.size, _, I1, rfl, ⟨_, y, rfl, I.hok.fresh (Nat.le_refl _), rfl, fun ys hy' => by rw [I.tuple_inj hy' hq]; exact hy⟩, ⟨⟨z, ?_⟩, hs.1.at fun o q => (sb.2 r (Ne.symm n1)).trans q, n1, n2, n3⟩, fun b hb => ?_⟩
    · rw [show ((k + 1 : Nat) : Int) = (k : Int) + 1 by omega]; exact he2
    · have hb' : b < s.heap.objs.size := by
        rcases List.mem_cons.mp hb with e | e
        · rw [e]; exact c1
        · rw [List.mem_singleton.mp e]; exact c2
      rw [upd_ne (Nat.ne_of_lt hb')]
      exact (hf b hb).1
  done := by
    intro X hP hw hK hc k pins s σ H E I hf st hg
    subst hP hw hK
    obtain ⟨⟨o, he⟩, hi, n1, n2, n3⟩ := st
    obtain ⟨vs, hq, hy⟩ := hg
    obtain ⟨its, rv, p, hz⟩ := I.tuple hq
    obtain ⟨f0, f1, f2, f3, f4, f5⟩ := hf r (by simp)
    have hl := rv.length
    have he' := he
    have hTy : s.TypeIs (.ref c) "enumerate" := ⟨_, he, rfl⟩
    unfold pyNext
    refine wpAny_bind (wpAny_attempt (wpAny_callSpecial?_slot (name := Str.ofString "__next__") hTy F.slot_enumerate_next
      (wpAny_call_entry F.slot_enumerate_next hTy F.entry_enumerate_next ?_ (F.args_enumerate_next_1 _))))
    refine wpAny_bind (m := field (.ref c) 2) (wpAny_field he' rfl (x := .ref r) rfl ?_)
    refine wpAny_bind (wpAny_nextOf_tuple_end (I.ok.hd hc) hi (show s.heap.IsTuple a its.toArray from p) (by simp; omega) fun h1 x e1 hx => ?_)
    obtain ⟨u, hu, hcu⟩ := hx
    refine wpAny_bind (wpAny_isInstance (T := "StopIteration") (b := true) ⟨u, hu, hcu⟩ isSubtype_stop ?_)
    exact wpAny_pure ⟨rfl, I.turned (t' := s.toks) (fun b o hb q => e1 b o hb q) f0 f1 f3 f4 f5⟩
  self := fun A k s Q E st h => by
    obtain ⟨⟨_, he⟩, _⟩ := st
    exact wpAny_pyIter_enum he h
set_option maxHeartbeats 2000000 in
theorem meets_enum1 {v : Value} {o : Obj} {R0 : Heap → Prop} (B : Begins v o R0) :
    Meets (Builtin.«enumerate.__new__» ⟨[.type "enumerate", v], []⟩) (fun _ R s => R0 s.heap ∧
      R (.ok (.ret (.ref (s.heap.push o).objs.size))) { s with heap := (s.heap.push o).push { cls := .type "enumerate", data := .fields #[.none, .bool false, .ref s.heap.objs.size, rawInt 0, .none, .none] } }) :=
  .of_wp fun prog w A R s h => by
    obtain ⟨hp, g, d, tk, os⟩ := s
    obtain ⟨h1, hR⟩ := h
    have isSub := sub_enumerate
    have begin1 : ∀ {A' : Around} {E : Value → Shared → Prop} {Q : Value → Shared → Prop}, Q (.ref hp.objs.size) ⟨hp.push o, g, d, tk, os⟩ → wpAny (model prog w) A' (pyIter v) Q E ⟨hp, g, d, tk, os⟩ :=
      fun q => B.iter prog w _ _ ⟨hp, g, d, tk, os⟩ _ h1 q
    wp_walk using begin1
    refine wpAny_stack_any fun st => wpAny_pure ?_
    split
    · rename_i cl _ _ _ _ _
      cases (cl == Value.type "enumerate")
      · wp_walk using begin1
        exact ⟨_, rfl, hR⟩
      · wp_walk using begin1
        exact ⟨_, rfl, hR⟩
    · wp_walk using begin1
      exact ⟨_, rfl, hR⟩
theorem enum_begins1 {prog : Program} {w : World} {A : Around} {E : Value → Shared → Prop} {s : Shared} {v : Value} {o : Obj} {R0 : Heap → Prop} {Q : Value → Shared → Prop} (B : Begins v o R0) (h1 : R0 s.heap)
    (h : ∀ h', IsEnum h' (s.heap.objs.size + 1) s.heap.objs.size 0 .none → h'.get? s.heap.objs.size = some o → h'.objs.size = s.heap.objs.size + 2 →
      (∀ b u, s.heap.get? b = some u → h'.get? b = some u) → Q (.ref (s.heap.objs.size + 1)) { s with heap := h' }) :
    wpAny (model prog w) A (call (.type "enumerate") [v]) Q E s := by
  refine callType_new F.called_enumerate (by decide) (F.typeCall_enumerate_1 _) (F.newCall_enumerate_1 _) (fun obj => F.args_object_init_2 obj _) F.entry_enumerate_new (meets_enum1 B) ⟨h1, ?_⟩
  have z : (s.heap.push o).objs.size = s.heap.objs.size + 1 := Heap.size_push ..
  show _ ∧ _
  rw [z]
  have e0 : IsEnum ((s.heap.push o).push { cls := .type "enumerate", data := .fields #[.none, .bool false, .ref s.heap.objs.size, rawInt 0, .none, .none] }) (s.heap.objs.size + 1) s.heap.objs.size 0 .none := by
    have q := Heap.get?_push_size (s.heap.push o) (o := { cls := .type "enumerate", data := .fields #[.none, .bool false, .ref s.heap.objs.size, rawInt 0, .none, .none] }) rfl
    rw [z] at q
    exact q
  refine ⟨⟨_, e0, rfl⟩, h _ e0 (Heap.get?_push_of_some _ (Heap.get?_push_size _ B.free)) (by rw [Heap.size_push, z]) fun b u x => Heap.get?_push_of_some _ (Heap.get?_push_of_some _ x)⟩
def iEnumTI (K : PySem.W.Frag) (ta : TA) : TI := fun σ H R => ta σ H fun vs H1 => ∃ a xs, vs = [.ref a] ∧ SqT K H1 a xs ∧ R (Itn K a) H1
theorem pi_enumT {X : Cx} {e : Expr} {ta : TA} {p pos tp : Pos} {es : List Expr} {j : Nat} (hg : Gl X "enumerate") (hm : X.mg "enumerate" = none) (ha : PA X [e] ta) (hs : starEach [e] X.env = [(false, eval e X.env)] := by rfl) :
    PI X (.Tuple es j tp) (.Call (.Name "enumerate" p) [e] [] pos) (iEnumTI X.K ta) := by
  refine ⟨fun pins s σ H R I h => ?_⟩
  refine Call_ (ld_blt I hg hm boot_enumerate (PyProof.Rows.callWith_type1 (thn (ha.run pos pins s σ H _ I h) fun us s1 ⟨vs, H1, I1, r1, q1⟩ => ?_) hs rfl))
  obtain ⟨a, xs, ex, hq, q⟩ := q1
  subst ex
  cases r1 with
  | cons r rr =>
    cases rr
    cases r
    obtain ⟨its, rv, p', hz⟩ := I1.tuple hq
    have ha1 : a < s1.heap.objs.size := by obtain ⟨_, q, _⟩ := p'; exact Heap.lt_size q
    refine enum_begins1 (begins_tuple a its.toArray) p' fun h1 he hi hsz hk => wpAny_pyIter_enum he ?_
    have I2 : Inv X pins σ H1 { s1 with heap := h1 } := I1.kept (t' := s1.toks) hk
    refine ⟨s1.heap.objs.size + 1, [s1.heap.objs.size + 1, s1.heap.objs.size], _, _, H1, rfl, I2, turn_enumT a (s1.heap.objs.size + 1) s1.heap.objs.size, ⟨⟨.none, he⟩, ⟨_, hi, rfl, rfl⟩, Nat.succ_ne_self _, Nat.ne_of_gt ha1, Nat.ne_of_gt (Nat.lt_succ_of_lt ha1)⟩, fun b hb => ?_, q⟩
    have hle : s1.heap.objs.size ≤ b := by
      rcases List.mem_cons.mp hb with z | z
      · rw [z]; exact Nat.le_add_right _ _
      · rw [List.mem_singleton.mp z]; exact Nat.le_refl _
    exact I1.fpOk hle (I1.hok.fresh hle)
section
variable [TabSet] {X : Cx} {F : Fr} {e a b c tg : Expr} {pos p : Pos} {f g h : M}
omit [TabSet] in
/-- enumerate of a list or a tuple -/
def iEnum (f : M) : MA := fun δ => match f δ with
  | some (.list xs, δ1) => some (enumD 0 xs, δ1)
  | some (.tuple xs, δ1) => some (enumD 0 xs, δ1)
  | _ => none
theorem i_enum {pp tpos : Pos} {elts : List Expr} {kk : Nat} (hg : Gl X "enumerate" := by rfl) (hm : X.mg "enumerate" = none) (ha : PE X a (SE X.K F f)) (hs : starEach [a] X.env = [(false, eval a X.env)] := by rfl) (na : starEach [a] X.env = (false, eval a X.env) :: starEach [] X.env := by rfl) :
    PI X (.Tuple elts kk tpos) (.Call (.Name "enumerate" pp) [a] [] pos) (SI X.K F (iEnum f)) := by
  refine pi_of fun S δ ds δ' σ H R Rs hf q => ?_
  unfold iEnum at hf
  split at hf
  · rename_i xs δ1 h1
    cases hf
    refine ⟨_, i_enumL hg hm ha hs na, S, δ, _, _, Rs, by unfold iEnumL; rw [h1], q⟩
  · rename_i xs δ1 h1
    cases hf
    refine ⟨_, pi_enumT hg hm (pa_cons ha pa_nil na) hs, S, δ, _, _, Rs, h1, fun v S1 H1 s1 R1 d1 => ?_⟩
    obtain ⟨p1, v1, rfl, e1, d1⟩ := dq_tup d1
    have l1 := dqa_len d1
    refine ⟨p1, v1, rfl, Tp.sq (Tp.ext R1.sub e1), q _ S1 H1 s1 R1 ⟨fun i S3 H3 x1 x2 hi => ?_, fun i S3 H3 x H4 d x1 x2 hy hd => ?_, fun i S3 H3 x1 x2 hi => ?_⟩⟩
    · rw [enumD_len] at hi
      exact ⟨v1, v1[i]'(by omega), Tp.sq (Tp.ext x2 (Tp.ext x1 e1)), List.getElem?_eq_getElem _⟩
    · obtain ⟨T, x, rfl, hT, rfl, k1⟩ := hy
      obtain ⟨dx, z1, rfl⟩ := enumD_get _ _ _ _ hd
      rw [Nat.zero_add]
      exact pair_new x2 hT (.int _) (dq_ext x1 (dqa_at d1 z1 (k1 _ (Tp.sq (Tp.ext x2 (Tp.ext x1 e1))))))
    · rw [enumD_len] at hi
      exact ⟨v1, Tp.sq (Tp.ext x2 (Tp.ext x1 e1)), by omega⟩
  · cases hf
end
end Sd

/-! What a shallow function answers, wished for from behind: Wp. -/
namespace Sd
open PySem PySem.Spec PyProof.Rows L2
def Wp {α : Type} (o : Option α) (Q : α → Prop) : Prop := ∃ a, o = some a ∧ Q a
section
variable {α β : Type} {Q R : α → Prop} {o : Option α}
theorem Wp.mono (h : Wp o Q) (w : ∀ a, Q a → R a) : Wp o R := by
  obtain ⟨a, e, q⟩ := h
  exact ⟨a, e, w a q⟩
theorem Wp.eq {a : α} (h : Wp o (· = a)) : o = some a := by
  obtain ⟨b, e, rfl⟩ := h
  exact e
theorem wp_of_eq {a : α} (e : o = some a) (h : Q a) : Wp o Q := ⟨a, e, h⟩
@[simp] theorem wp_some (a : α) : Wp (some a) Q ↔ Q a := by simp [Wp]
@[simp] theorem wp_none : Wp (none : Option α) Q ↔ False := by simp [Wp]
@[simp] theorem wp_map (f : β → α) (o : Option β) : Wp (o.map f) Q ↔ Wp o fun b => Q (f b) := by cases o <;> simp
@[simp] theorem wp_iteN {c : Prop} [Decidable c] : Wp (if c then none else o) Q ↔ ¬c ∧ Wp o Q := by
  by_cases h : c <;> simp [h]
@[simp] theorem wp_ite {c : Prop} [Decidable c] : Wp (if c then o else none) Q ↔ c ∧ Wp o Q := by
  by_cases h : c <;> simp [h]
end
section
variable {f g h : M} {tf tg : MT} {fa ga : MA} {fr : MR} {δ : DE} {pf pg : PF} {pl ph : PO'}
variable {Q : D × DE → Prop} {QT : Bool × DE → Prop} {QA : List D × DE → Prop} {QR : Int × Int × DE → Prop} {QD : D → Prop} {QO : Option Int → Prop} {QS : Out → Prop} {QE : DE → Prop} {QF : Res → Prop} {QC : D × List D → Prop}
/-- a datum that is True or False; a whole number -/
def boolK (Q : Bool → Prop) : D → Prop
  | .bool b => Q b
  | _ => False
def intK (Q : Int → Prop) : D → Prop
  | .int i => Q i
  | _ => False
@[simp] theorem boolK_b {Q : Bool → Prop} {b : Bool} : boolK Q (.bool b) ↔ Q b := Iff.rfl
@[simp] theorem intK_i {Q : Int → Prop} {i : Int} : intK Q (.int i) ↔ Q i := Iff.rfl
/-! ### plain -/
@[simp] theorem wp_pVar {i : Nat} : Wp (pVar i δ) QD ↔ ∃ d, δ[i]? = some (.sh d) ∧ QD d := by
  unfold pVar
  rcases hx : δ[i]? with _ | s
  · simp_all
  cases s <;> simp_all
@[simp] theorem wp_pC {d : D} : Wp (pC d δ) QD ↔ QD d := by simp [pC]
@[simp] theorem wp_pOp {op : D → D → Option D} : Wp (pOp op pf pg δ) QD ↔ Wp (pf δ) fun x => Wp (pg δ) fun y => Wp (op x y) QD := by
  unfold pOp
  rcases pf δ with _ | x <;> simp
  rcases pg δ with _ | y <;> simp
@[simp] theorem wp_pNeg : Wp (pNeg pf δ) QD ↔ Wp (pf δ) fun x => ∃ i, x = .int i ∧ QD (.int (-i)) := by
  unfold pNeg
  rcases pf δ with _ | x
  · simp
  cases x <;> simp
@[simp] theorem wp_addI {x y : D} : Wp (addI x y) QD ↔ ∃ i j, x = .int i ∧ y = .int j ∧ QD (.int (i + j)) := by
  unfold addI
  cases x <;> cases y <;> simp
@[simp] theorem wp_pAdd : Wp (pAdd pf pg δ) QD ↔ Wp (pf δ) fun x => Wp (pg δ) fun y => ∃ i j, x = .int i ∧ y = .int j ∧ QD (.int (i + j)) := by
  unfold pAdd
  simp
@[simp] theorem wp_oNo : Wp (oNo δ) QO ↔ QO none := by simp [oNo]
@[simp] theorem wp_oInt : Wp (oInt pf δ) QO ↔ Wp (pf δ) fun x => ∃ i, x = .int i ∧ QO (some i) := by
  unfold oInt
  rcases pf δ with _ | x
  · simp
  cases x <;> simp
/-! ### expressions -/
@[simp] theorem wp_fVar {i : Nat} : Wp (fVar i δ) Q ↔ ∃ d, δ[i]? = some (.sh d) ∧ Q (d, δ) := by
  unfold fVar
  rcases hx : δ[i]? with _ | s
  · simp_all
  cases s <;> simp_all
@[simp] theorem wp_fC {d : D} : Wp (fC d δ) Q ↔ Q (d, δ) := by simp [fC]
@[simp] theorem wp_fOp {op : D → D → Option D} : Wp (fOp op f g δ) Q ↔ Wp (f δ) fun p => Wp (g p.2) fun q => Wp (op p.1 q.1) fun z => Q (z, q.2) := by
  unfold fOp
  rcases f δ with _ | ⟨x, δ1⟩ <;> simp
  rcases g δ1 with _ | ⟨y, δ2⟩ <;> simp
  rcases op x y with _ | z <;> simp
@[simp] theorem wp_fNeg : Wp (fNeg f δ) Q ↔ Wp (f δ) fun p => ∃ i, p.1 = .int i ∧ Q (.int (-i), p.2) := by
  unfold fNeg
  rcases f δ with _ | ⟨x, δ1⟩
  · simp
  cases x <;> simp
@[simp] theorem wp_fCmp {o : D → D → Option Bool} : Wp (fCmp o f g δ) Q ↔ Wp (f δ) fun p => Wp (g p.2) fun q => Wp (o p.1 q.1) fun k => Q (.bool k, q.2) := by
  unfold fCmp
  simp
@[simp] theorem wp_fCmpT {o : D → D → Option Bool} : Wp (fCmpT o f g δ) QT ↔ Wp (f δ) fun p => Wp (g p.2) fun q => Wp (o p.1 q.1) fun k => QT (k, q.2) := by
  unfold fCmpT fCmp fOp
  rcases f δ with _ | ⟨x, δ1⟩ <;> simp
  rcases g δ1 with _ | ⟨y, δ2⟩ <;> simp
  rcases o x y with _ | z <;> simp
/-- what a chain asks behind its first comparison -/
def chainK (o' : D → D → Option Bool) (h : M) (Q : Bool × DE → Prop) (y : D) (δ2 : DE) (b : Bool) : Prop :=
  (b = true → Wp (h δ2) fun r => Wp (o' y r.1) fun k => Q (k, r.2)) ∧ (b = false → Q (false, δ2))
@[simp] theorem chainK_b {o' : D → D → Option Bool} {h : M} {y : D} {δ2 : DE} {b : Bool} : chainK o' h QT y δ2 b ↔ (b = true → Wp (h δ2) fun r => Wp (o' y r.1) fun k => QT (k, r.2)) ∧ (b = false → QT (false, δ2)) := Iff.rfl
@[simp] theorem wp_fChain {o o' : D → D → Option Bool} : Wp (fChain o o' f g h δ) Q ↔ Wp (f δ) fun p => Wp (g p.2) fun q => Wp (o p.1 q.1) (chainK o' h (fun b => Q (.bool b.1, b.2)) q.1 q.2) := by
  unfold fChain
  rcases f δ with _ | ⟨x, δ1⟩ <;> simp
  rcases g δ1 with _ | ⟨y, δ2⟩ <;> simp
  rcases o x y with _ | b <;> simp
  cases b <;> simp
  rcases h δ2 with _ | ⟨z, δ3⟩ <;> simp
@[simp] theorem wp_fChainT {o o' : D → D → Option Bool} : Wp (fChainT o o' f g h δ) QT ↔ Wp (f δ) fun p => Wp (g p.2) fun q => Wp (o p.1 q.1) (chainK o' h QT q.1 q.2) := by
  unfold fChainT fChain
  rcases f δ with _ | ⟨x, δ1⟩ <;> simp
  rcases g δ1 with _ | ⟨y, δ2⟩ <;> simp
  rcases o x y with _ | b <;> simp
  cases b <;> simp
  rcases h δ2 with _ | ⟨z, δ3⟩ <;> simp
  rcases o' y z with _ | k <;> simp
@[simp] theorem wp_fB : Wp (fB f δ) QT ↔ Wp (f δ) fun p => boolK (fun b => QT (b, p.2)) p.1 := by
  unfold fB
  rcases f δ with _ | ⟨x, δ1⟩
  · simp
  cases x <;> simp [boolK]
@[simp] theorem wp_fTruth : Wp (fTruth f δ) QT ↔ Wp (f δ) fun p => Wp (truth p.1) fun b => QT (b, p.2) := by
  unfold fTruth
  rcases f δ with _ | ⟨x, δ1⟩ <;> simp
@[simp] theorem wp_fNotT : Wp (fNotT tf δ) QT ↔ Wp (tf δ) fun p => QT (!p.1, p.2) := by
  unfold fNotT
  rcases tf δ with _ | ⟨x, δ1⟩ <;> simp
@[simp] theorem wp_fAndT : Wp (fAndT tf tg δ) QT ↔ Wp (tf δ) fun p => (p.1 = true → Wp (tg p.2) QT) ∧ (p.1 = false → QT (false, p.2)) := by
  unfold fAndT
  rcases tf δ with _ | ⟨x, δ1⟩
  · simp
  cases x <;> simp
@[simp] theorem wp_fOrT : Wp (fOrT tf tg δ) QT ↔ Wp (tf δ) fun p => (p.1 = true → QT (true, p.2)) ∧ (p.1 = false → Wp (tg p.2) QT) := by
  unfold fOrT
  rcases tf δ with _ | ⟨x, δ1⟩
  · simp
  cases x <;> simp
@[simp] theorem wp_fAndV : Wp (fAndV f g δ) Q ↔ Wp (f δ) fun p => boolK (fun b => (b = true → Wp (g p.2) Q) ∧ (b = false → Q (.bool false, p.2))) p.1 := by
  unfold fAndV
  rcases f δ with _ | ⟨x, δ1⟩
  · simp
  cases x
  case bool b => cases b <;> simp
  all_goals simp [boolK]
@[simp] theorem wp_fOrV : Wp (fOrV f g δ) Q ↔ Wp (f δ) fun p => boolK (fun b => (b = true → Q (.bool true, p.2)) ∧ (b = false → Wp (g p.2) Q)) p.1 := by
  unfold fOrV
  rcases f δ with _ | ⟨x, δ1⟩
  · simp
  cases x
  case bool b => cases b <;> simp
  all_goals simp [boolK]
@[simp] theorem wp_fNotV : Wp (fNotV f δ) Q ↔ Wp (f δ) fun p => boolK (fun b => Q (.bool (!b), p.2)) p.1 := by
  unfold fNotV
  rcases f δ with _ | ⟨x, δ1⟩
  · simp
  cases x <;> simp [boolK]
@[simp] theorem wp_fIf : Wp (fIf tf f g δ) Q ↔ Wp (tf δ) fun p => (p.1 = true → Wp (f p.2) Q) ∧ (p.1 = false → Wp (g p.2) Q) := by
  unfold fIf
  rcases tf δ with _ | ⟨x, δ1⟩
  · simp
  cases x <;> simp
@[simp] theorem wp_aNil : Wp (aNil δ) QA ↔ QA ([], δ) := by simp [aNil]
@[simp] theorem wp_aCons : Wp (aCons f fa δ) QA ↔ Wp (f δ) fun p => Wp (fa p.2) fun q => QA (p.1 :: q.1, q.2) := by
  unfold aCons
  rcases f δ with _ | ⟨x, δ1⟩ <;> simp
  rcases fa δ1 with _ | ⟨y, δ2⟩ <;> simp
@[simp] theorem wp_fTup : Wp (fTup fa δ) Q ↔ Wp (fa δ) fun p => p.1.length ≤ 100000 ∧ Q (.tuple p.1, p.2) := by
  unfold fTup
  rcases fa δ with _ | ⟨x, δ1⟩ <;> simp
@[simp] theorem wp_fList : Wp (fList fa δ) Q ↔ Wp (fa δ) fun p => Q (.list p.1, p.2) := by
  unfold fList
  rcases fa δ with _ | ⟨x, δ1⟩ <;> simp
@[simp] theorem wp_lLst : Wp (lLst fa δ) QA ↔ Wp (fa δ) fun p => p.1.length ≤ 100000 ∧ QA (p.1, p.2) := by
  unfold lLst
  rcases fa δ with _ | ⟨x, δ1⟩ <;> simp
/-- what is read of a slot -/
def peekD : Slot → Option D
  | .ow (.lst xs) => some (.list xs)
  | .ow (.dct kvs) => some (.dict kvs)
  | .sh d => some d
  | _ => none
@[simp] theorem peekD_l {xs : List D} : peekD (.ow (.lst xs)) = some (.list xs) := rfl
@[simp] theorem peekD_k {kvs : List (D × D)} : peekD (.ow (.dct kvs)) = some (.dict kvs) := rfl
@[simp] theorem peekD_s {d : D} : peekD (.sh d) = some d := rfl
@[simp] theorem peekD_n : peekD .no = none := rfl
@[simp] theorem wp_fPeek {i : Nat} : Wp (fPeek i δ) Q ↔ Wp (δ[i]?.bind peekD) fun d => Q (d, δ) := by
  unfold fPeek
  rcases hx : δ[i]? with _ | s
  · simp
  · cases s with
    | ow ob => cases ob <;> simp
    | _ => simp [peekD]
@[simp] theorem wp_fIxX : Wp (fIxX f pg δ) Q ↔ Wp (f δ) fun p => Wp (pg p.2) fun y => Wp (ixD p.1 y) fun z => Q (z, p.2) := by
  unfold fIxX
  rcases f δ with _ | ⟨x, δ1⟩ <;> simp
  rcases pg δ1 with _ | y <;> simp
@[simp] theorem wp_lSl : Wp (lSl f pl ph δ) QA ↔ Wp (f δ) fun p => ∃ ds, p.1 = .list ds ∧ Wp (pl p.2) fun lo => Wp (ph p.2) fun hi => QA (cutD ds lo hi, p.2) := by
  unfold lSl
  rcases f δ with _ | ⟨x, δ1⟩
  · simp
  cases x <;> simp
  rcases pl δ1 with _ | lo <;> simp
  rcases ph δ1 with _ | hi <;> simp
@[simp] theorem wp_fSlT : Wp (fSlT f pl ph δ) Q ↔ Wp (f δ) fun p => ∃ ds, p.1 = .tuple ds ∧ Wp (pl p.2) fun lo => Wp (ph p.2) fun hi => Q (.tuple (cutD ds lo hi), p.2) := by
  unfold fSlT
  rcases f δ with _ | ⟨x, δ1⟩
  · simp
  cases x <;> simp
  rcases pl δ1 with _ | lo <;> simp
  rcases ph δ1 with _ | hi <;> simp
/-- a part of a list or a tuple -/
def slK (pl ph : PO') (Q : D × DE → Prop) : D × DE → Prop
  | (.list ds, δ) => Wp (pl δ) fun lo => Wp (ph δ) fun hi => Q (.list (cutD ds lo hi), δ)
  | (.tuple ds, δ) => Wp (pl δ) fun lo => Wp (ph δ) fun hi => Q (.tuple (cutD ds lo hi), δ)
  | _ => False
@[simp] theorem slK_l {ds : List D} : slK pl ph Q (.list ds, δ) ↔ Wp (pl δ) fun lo => Wp (ph δ) fun hi => Q (.list (cutD ds lo hi), δ) := Iff.rfl
@[simp] theorem slK_t {ds : List D} : slK pl ph Q (.tuple ds, δ) ↔ Wp (pl δ) fun lo => Wp (ph δ) fun hi => Q (.tuple (cutD ds lo hi), δ) := Iff.rfl
@[simp] theorem wp_fSlA : Wp (fSlA f pl ph δ) Q ↔ Wp (f δ) (slK pl ph Q) := by
  rcases hx : f δ with _ | ⟨x, δ1⟩
  · simp [fSlA, hx]
  cases x <;> simp [fSlA, hx, fList, lSl, fSlT, slK]
  · rcases hl : pl δ1 with _ | lo <;> simp [hl]
    rcases hh : ph δ1 with _ | hi <;> simp [hh]
  · rcases hl : pl δ1 with _ | lo <;> simp [hl]
    rcases hh : ph δ1 with _ | hi <;> simp [hh]
@[simp] theorem wp_f1 {u : D → Option D} : Wp (f1 u f δ) Q ↔ Wp (f δ) fun p => Wp (u p.1) fun z => Q (z, p.2) := by
  unfold f1
  rcases f δ with _ | ⟨x, δ1⟩ <;> simp
@[simp] theorem wp_l1 {u : D → Option (List D)} : Wp (l1 u f δ) QA ↔ Wp (f δ) fun p => Wp (u p.1) fun z => QA (z, p.2) := by
  unfold l1
  rcases f δ with _ | ⟨x, δ1⟩ <;> simp
@[simp] theorem wp_r1 : Wp (r1 f δ) QR ↔ Wp (f δ) fun p => ∃ n, p.1 = .int n ∧ QR (0, n, p.2) := by
  unfold r1
  rcases f δ with _ | ⟨x, δ1⟩
  · simp
  cases x <;> simp
@[simp] theorem wp_r2 : Wp (r2 f g δ) QR ↔ Wp (f δ) fun p => ∃ a, p.1 = .int a ∧ Wp (g p.2) fun q => ∃ b, q.1 = .int b ∧ QR (a, b, q.2) := by
  unfold r2
  rcases f δ with _ | ⟨x, δ1⟩
  · simp
  cases x <;> simp
  rcases g δ1 with _ | ⟨y, δ2⟩
  · simp
  cases y <;> simp
@[simp] theorem wp_lRg : Wp (lRg fr δ) QA ↔ Wp (fr δ) fun p => rgOk p.1 p.2.1 = true ∧ QA (rgD p.1 p.2.1, p.2.2) := by
  unfold lRg
  rcases fr δ with _ | ⟨a, b, δ1⟩ <;> simp
@[simp] theorem wp_fTupRg : Wp (fTupRg fr δ) Q ↔ Wp (fr δ) fun p => rgOk p.1 p.2.1 = true ∧ Q (.tuple (rgD p.1 p.2.1), p.2.2) := by
  unfold fTupRg
  rcases fr δ with _ | ⟨a, b, δ1⟩ <;> simp
/-- items of a list or a tuple -/
def seqK (Q : List D × DE → Prop) : D × DE → Prop
  | (.list ds, δ) => Q (ds, δ)
  | (.tuple ds, δ) => Q (ds, δ)
  | _ => False
@[simp] theorem seqK_l {ds : List D} : seqK QA (.list ds, δ) ↔ QA (ds, δ) := Iff.rfl
@[simp] theorem seqK_t {ds : List D} : seqK QA (.tuple ds, δ) ↔ QA (ds, δ) := Iff.rfl
@[simp] theorem wp_iSeq : Wp (iSeq f δ) QA ↔ Wp (f δ) (seqK QA) := by
  unfold iSeq
  rcases f δ with _ | ⟨x, δ1⟩
  · simp
  cases x <;> simp [seqK]
@[simp] theorem wp_iEnum : Wp (iEnum f δ) QA ↔ Wp (f δ) (seqK fun p => QA (enumD 0 p.1, p.2)) := by
  unfold iEnum
  rcases f δ with _ | ⟨x, δ1⟩
  · simp
  cases x <;> simp [seqK]
/-- zip of two lists, or of two tuples -/
def zipK (g : M) (Q : List D × DE → Prop) : D × DE → Prop
  | (.list xs, δ) => Wp (g δ) fun q => ∃ ys, q.1 = .list ys ∧ Q (zipD xs ys, q.2)
  | (.tuple xs, δ) => Wp (g δ) fun q => ∃ ys, q.1 = .tuple ys ∧ Q (zipD xs ys, q.2)
  | _ => False
@[simp] theorem zipK_l {ds : List D} : zipK g QA (.list ds, δ) ↔ Wp (g δ) fun q => ∃ ys, q.1 = .list ys ∧ QA (zipD ds ys, q.2) := Iff.rfl
@[simp] theorem zipK_t {ds : List D} : zipK g QA (.tuple ds, δ) ↔ Wp (g δ) fun q => ∃ ys, q.1 = .tuple ys ∧ QA (zipD ds ys, q.2) := Iff.rfl
@[simp] theorem wp_iZip2 : Wp (iZip2 f g δ) QA ↔ Wp (f δ) (zipK g QA) := by
  unfold iZip2
  rcases f δ with _ | ⟨x, δ1⟩
  · simp
  cases x <;> simp [zipK]
  · rcases g δ1 with _ | ⟨y, δ2⟩
    · simp
    cases y <;> simp
  · rcases g δ1 with _ | ⟨y, δ2⟩
    · simp
    cases y <;> simp
/-! ### targets -/
@[simp] theorem wp_gN {i : Nat} {d : D} : Wp (gN i d δ) QE ↔ free0 i δ = true ∧ QE (δ.set i (.sh d)) := by
  unfold gN
  simp
@[simp] theorem wp_gsNil : Wp (gsNil [] δ) QE ↔ QE δ := by simp [gsNil]
@[simp] theorem wp_gsCons {gg : MG} {gs : MGs} {d : D} {r : List D} : Wp (gsCons gg gs (d :: r) δ) QE ↔ Wp (gg d δ) fun δ1 => Wp (gs r δ1) QE := by
  simp only [gsCons]
  rcases gg d δ with _ | δ1 <;> simp
@[simp] theorem wp_gTw {gs : MGs} {ds : List D} : Wp (gT gs (wP ds) δ) QE ↔ Wp (gs ds δ) QE := Iff.rfl
@[simp] theorem wp_gTd {gs : MGs} {ds : List D} : Wp (gT gs (.dict (wK ds)) δ) QE ↔ Wp (gs ds δ) QE := Iff.rfl
@[simp] theorem wp_gT {gs : MGs} {ds : List D} : Wp (gT gs (.tuple ds) δ) QE ↔ Wp (gs ds δ) QE := by simp [gT]
@[simp] theorem wp_gSubO {i : Nat} {d : D} : Wp (gSubO i pf d δ) QE ↔ Wp (pf δ) fun x => ∃ j, x = .int j ∧ ∃ xs, δ[i]? = some (.ow (.lst xs)) ∧ Wp (ixN xs.length j) fun k => QE (δ.set i (.ow (xs.set k d))) := by
  unfold gSubO
  rcases pf δ with _ | x
  · simp
  cases x <;> simp
  rename_i j
  rcases δ[i]? with _ | s
  · simp
  rcases s with _ | d | (xs | kvs) | ns <;> simp
  rcases ixN xs.length j with _ | k <;> simp
/-! ### comprehensions -/
@[simp] theorem wp_tTrue : Wp (tTrue δ) QT ↔ QT (true, δ) := by simp [tTrue]
@[simp] theorem wp_lComp {gg : MG} {vs : List Nat} : Wp (lComp fa gg tf f vs δ) QA ↔ Wp (fa δ) fun p => (noOwn vs p.2 = true ∧ p.1.length ≤ 100000) ∧ Wp (cRun gg tf f vs p.1 (wipeD p.2 vs)) fun q => QA (q.1, mergeD p.2 q.2 vs) := by
  unfold lComp
  rcases fa δ with _ | ⟨ds, δ1⟩ <;> simp
  intro _ _
  rcases cRun gg tf f vs ds (wipeD δ1 vs) with _ | ⟨ys, δ2⟩ <;> simp
/-- what a comprehension asks of one item -/
def itemK (f : M) (vs : List Nat) (N : Option D → DE → Prop) (p : Bool × DE) : Prop :=
  (p.1 = true → Wp (f p.2) fun q => N (some q.1) (wipeD q.2 vs)) ∧ (p.1 = false → N none (wipeD p.2 vs))
theorem wp_cRun {gg : MG} {vs : List Nat} (I : List D → List D → DE → Prop) : ∀ {QA : List D × DE → Prop} {ds : List D} {acc : List D} {δ : DE}, I ds acc δ →
    (∀ d ds acc δ, I (d :: ds) acc δ → Wp (gg d δ) fun δ1 => Wp (tf δ1) (itemK f vs fun y δ2 => I ds (acc ++ y.toList) δ2)) →
    (∀ ys δ, I [] (acc ++ ys) δ → QA (ys, δ)) → Wp (cRun gg tf f vs ds δ) QA
  | _, [], acc, δ, h0, _, he => by
    simp only [cRun, wp_some]
    exact he [] δ (by rw [List.append_nil]; exact h0)
  | QA, d :: ds, acc, δ, h0, hs, he => by
    obtain ⟨δ1, e1, δp, e2, k1, k2⟩ := hs d ds acc δ h0
    obtain ⟨b, δ2⟩ := δp
    cases b with
    | true =>
      obtain ⟨⟨y, δ3⟩, e3, k3⟩ := k1 rfl
      simp only [cRun, e1, e2, e3]
      have ih := wp_cRun (QA := fun q => QA (y :: q.1, q.2)) I k3 hs (fun ys δ hI => he (y :: ys) δ (by simpa only [Option.toList_some, List.append_assoc, List.singleton_append] using hI))
      obtain ⟨⟨ys, δ4⟩, e4, k4⟩ := ih
      simp only [e4, wp_some]
      exact k4
    | false =>
      have k3 := k2 rfl
      simp only [cRun, e1, e2]
      simp only [Option.toList_none, List.append_nil] at k3
      exact wp_cRun I k3 hs he
/-- .. that draws nothing -/
theorem wp_cMap {gg : MG} {vs : List Nat} {ds : List D} {α : Type} (en : α → D) (xs : List α) (pr : α → Bool) (o : α → D) (hd : ds = xs.map en)
    (hs : ∀ x ∈ xs, Wp (gg (en x) δ) fun δ1 => Wp (tf δ1) fun p => p.1 = pr x ∧ (pr x = true → Wp (f p.2) fun q => q.1 = o x ∧ wipeD q.2 vs = δ) ∧ (pr x = false → wipeD p.2 vs = δ)) (he : QA ((xs.filter pr).map o, δ)) : Wp (cRun gg tf f vs ds δ) QA := by
  subst hd
  have key : ∀ xs : List α, (∀ x ∈ xs, Wp (gg (en x) δ) fun δ1 => Wp (tf δ1) fun p => p.1 = pr x ∧ (pr x = true → Wp (f p.2) fun q => q.1 = o x ∧ wipeD q.2 vs = δ) ∧ (pr x = false → wipeD p.2 vs = δ)) → cRun gg tf f vs (xs.map en) δ = some ((xs.filter pr).map o, δ) := by
    intro xs
    induction xs with
    | nil => intro _; rfl
    | cons x r ih =>
      intro h
      have ih := ih fun y hy => h y (List.mem_cons_of_mem _ hy)
      obtain ⟨δ1, e1, ⟨b, δ2⟩, e2, hb, k1, k2⟩ := h x (List.mem_cons_self ..)
      simp only at hb k1 k2
      subst hb
      cases hp : pr x with
      | true =>
        rw [hp] at e2
        obtain ⟨⟨y, δ3⟩, e3, k3, k4⟩ := k1 hp
        simp only at k3 k4
        simp only [List.map_cons, cRun, e1, e2, e3, k4, ih, List.filter_cons, hp, if_true, k3]
      | false =>
        rw [hp] at e2
        have k3 := k2 hp
        simp only [List.map_cons, cRun, e1, e2, k3, ih, List.filter_cons, hp, if_neg Bool.false_ne_true]
  exact ⟨_, key xs hs, he⟩
/-! ### calls -/
/-- what a call that returns gives -/
def retK (Q : D → Prop) : Res → Prop
  | .ret d => Q d
  | .exc _ _ => False
@[simp] theorem retK_r {d : D} : retK QD (.ret d) ↔ QD d := Iff.rfl
@[simp] theorem retK_e {c p} : retK QD (.exc c p) ↔ False := Iff.rfl
@[simp] theorem wp_fCall {m : MF} : Wp (fCall m fa δ) Q ↔ Wp (fa δ) fun p => Wp (m p.1) (retK fun d => Q (d, p.2)) := by
  unfold fCall
  rcases fa δ with _ | ⟨ds, δ1⟩ <;> simp
  rcases m ds with _ | r
  · simp
  cases r <;> simp [retK]
@[simp] theorem wp_fCallC {i : Nat} {m : MC} : Wp (fCallC i m fa δ) Q ↔ isOw δ i = true ∧ Wp (fa δ) fun p => ∃ xs, p.2[i]? = some (.ow (.lst xs)) ∧ Wp (m xs p.1) fun r => Q (r.1, p.2.set i (.ow r.2)) := by
  unfold fCallC
  by_cases h : isOw δ i = true <;> simp [h]
  rcases fa δ with _ | ⟨ds, δ1⟩ <;> simp
  rcases δ1[i]? with _ | s
  · simp
  rcases s with _ | d | (xs | kvs) | ns <;> simp
  rcases m xs ds with _ | r <;> simp
/-- what a called check gives -/
def callK (δ : DE) (Q : Out → Prop) : Res → Prop
  | .ret _ => Q (.nx δ)
  | .exc c p => Q (.ex c p)
@[simp] theorem callK_r {d : D} : callK δ QS (.ret d) ↔ QS (.nx δ) := Iff.rfl
@[simp] theorem callK_e {c p} : callK δ QS (.exc c p) ↔ QS (.ex c p) := Iff.rfl
@[simp] theorem wp_sCall {m : MF} : Wp (sCall m fa δ) QS ↔ Wp (fa δ) fun p => Wp (m p.1) (callK p.2 QS) := by
  unfold sCall
  rcases fa δ with _ | ⟨ds, δ1⟩ <;> simp
  rcases m ds with _ | r
  · simp
  cases r <;> simp [callK]
@[simp] theorem wp_rCall {m : MF} {QQ : Res × DE → Prop} : Wp (rCall m fa δ) QQ ↔ Wp (fa δ) fun p => Wp (m p.1) fun r => QQ (r, p.2) := by
  unfold rCall
  rcases fa δ with _ | ⟨ds, δ1⟩ <;> simp
  rcases m ds with _ | r <;> simp
/-- the word of an error -/
def toldK (mt : Str → Str → Option Bool) (hands : List (Str × Str)) (dflt : Str) (Q : D × DE → Prop) : Res × DE → Prop
  | (.ret _, δ) => Q (.str dflt, δ)
  | (.exc c _, δ) => Wp (pick mt c hands) fun r => Q (.str r, δ)
@[simp] theorem toldK_r {mt : Str → Str → Option Bool} {hands : List (Str × Str)} {dflt : Str} {d : D} : toldK mt hands dflt Q (.ret d, δ) ↔ Q (.str dflt, δ) := Iff.rfl
@[simp] theorem toldK_e {mt : Str → Str → Option Bool} {hands : List (Str × Str)} {dflt : Str} {c p} : toldK mt hands dflt Q (.exc c p, δ) ↔ Wp (pick mt c hands) fun r => Q (.str r, δ) := Iff.rfl
@[simp] theorem wp_fTold {mt : Str → Str → Option Bool} {hands : List (Str × Str)} {dflt : Str} {ff : DE → Option (Res × DE)} : Wp (fTold mt hands dflt ff δ) Q ↔ Wp (ff δ) (toldK mt hands dflt Q) := by
  unfold fTold
  rcases ff δ with _ | ⟨r, δ1⟩
  · simp
  cases r <;> simp [toldK]
  rename_i c p
  rcases pick mt c hands with _ | r <;> simp
/-! ### own lists -/
@[simp] theorem wp_fPop {i : Nat} : Wp (fPop i f δ) Q ↔ isLst δ i = true ∧ Wp (f δ) fun p => ∃ j, p.1 = .int j ∧ ∃ xs, p.2[i]? = some (.ow (.lst xs)) ∧ Wp (ixN xs.length j) fun k => ∃ d, xs[k]? = some d ∧ (small j = true ∧ xs.length ≤ 100000) ∧ Q (d, p.2.set i (.ow (xs.eraseIdx k))) := by
  unfold fPop
  by_cases h : isLst δ i = true <;> simp [h]
  rcases f δ with _ | ⟨x, δ1⟩
  · simp
  cases x <;> simp
  rename_i j
  rcases δ1[i]? with _ | s
  · simp
  rcases s with _ | d | (xs | kvs) | ns <;> simp
  rcases ixN xs.length j with _ | k <;> simp
  rcases xs[k]? with _ | d <;> simp
@[simp] theorem wp_fCmpO {i : Nat} {o : D → D → Option Bool} : Wp (fCmpO i o g δ) Q ↔ isOw δ i = true ∧ Wp (g δ) fun p => ∃ xs, p.2[i]? = some (.ow (.lst xs)) ∧ Wp (o (.list xs) p.1) fun k => Q (.bool k, p.2) := by
  unfold fCmpO
  by_cases h : isOw δ i = true <;> simp [h]
  rcases g δ with _ | ⟨x, δ1⟩ <;> simp
  rcases δ1[i]? with _ | s
  · simp
  rcases s with _ | d | (xs | kvs) | ns <;> simp
  rcases o (.list xs) x with _ | k <;> simp
@[simp] theorem wp_fCmpOT {i : Nat} {o : D → D → Option Bool} : Wp (fCmpOT i o g δ) QT ↔ isOw δ i = true ∧ Wp (g δ) fun p => ∃ xs, p.2[i]? = some (.ow (.lst xs)) ∧ Wp (o (.list xs) p.1) fun k => QT (k, p.2) := by
  unfold fCmpOT fCmpO
  by_cases h : isOw δ i = true <;> simp [h]
  rcases g δ with _ | ⟨x, δ1⟩ <;> simp
  rcases δ1[i]? with _ | s
  · simp
  rcases s with _ | d | (xs | kvs) | ns <;> simp
  rcases o (.list xs) x with _ | k <;> simp
@[simp] theorem wp_fRevT : Wp (fRevT f δ) Q ↔ Wp (f δ) fun p => ∃ ds, p.1 = .tuple ds ∧ Q (.tuple ds.reverse, p.2) := by
  unfold fRevT
  rcases f δ with _ | ⟨x, δ1⟩
  · simp
  cases x <;> simp
@[simp] theorem wp_lRev : Wp (lRev f δ) QA ↔ Wp (f δ) fun p => ∃ ds, p.1 = .list ds ∧ QA (ds.reverse, p.2) := by
  unfold lRev
  rcases f δ with _ | ⟨x, δ1⟩
  · simp
  cases x <;> simp
def revK (Q : D × DE → Prop) : D × DE → Prop
  | (.list ds, δ) => Q (.list ds.reverse, δ)
  | (.tuple ds, δ) => Q (.tuple ds.reverse, δ)
  | _ => False
@[simp] theorem revK_l {ds : List D} : revK Q (.list ds, δ) ↔ Q (.list ds.reverse, δ) := Iff.rfl
@[simp] theorem revK_t {ds : List D} : revK Q (.tuple ds, δ) ↔ Q (.tuple ds.reverse, δ) := Iff.rfl
@[simp] theorem wp_fRev : Wp (fRev f δ) Q ↔ Wp (f δ) (revK Q) := by
  rcases hx : f δ with _ | ⟨x, δ1⟩
  · simp [fRev, hx]
  cases x <;> simp [fRev, hx, fList, lRev, fRevT, revK]
@[simp] theorem wp_lScr {i : Nat} : Wp (lScr i δ) QA ↔ ∃ ns, δ[i]? = some (.scr ns) ∧ ns.length ≤ 100000 ∧ QA (ns.map .int, δ) := by
  unfold lScr
  rcases hx : δ[i]? with _ | s
  · simp
  rcases s with _ | d | (xs | kvs) | ns <;> simp
@[simp] theorem wp_lCallO {i : Nat} {m : MO} : Wp (lCallO i m δ) QA ↔ ∃ ns, δ[i]? = some (.scr ns) ∧ Wp (m ns) fun xs => QA (xs, δ) := by
  unfold lCallO
  rcases hx : δ[i]? with _ | s
  · simp
  rcases s with _ | d | (xs | kvs) | ns <;> simp
  rcases m ns with _ | xs <;> simp
@[simp] theorem wp_lMul : Wp (lMul f g δ) QA ↔ Wp (f δ) fun p => ∃ xs, p.1 = .list xs ∧ Wp (g p.2) fun q => ∃ k, q.1 = .int k ∧ (0 ≤ k ∧ k ≤ 1000 ∧ xs.length ≤ 100) ∧ QA ((List.replicate k.toNat xs).flatten, q.2) := by
  unfold lMul
  rcases f δ with _ | ⟨x, δ1⟩
  · simp
  cases x <;> simp
  rcases g δ1 with _ | ⟨y, δ2⟩
  · simp
  cases y <;> simp
/-! ### statements -/
/-- what stands behind a statement -/
def thenK (gs : MS) (Q : Out → Prop) : Out → Prop
  | .nx δ => Wp (gs δ) Q
  | o => Q o
section
variable {fs gs : MS} {d : D}
@[simp] theorem thenK_n : thenK gs QS (.nx δ) ↔ Wp (gs δ) QS := Iff.rfl
@[simp] theorem thenK_r : thenK gs QS (.rt d δ) ↔ QS (.rt d δ) := Iff.rfl
@[simp] theorem thenK_b : thenK gs QS (.bk δ) ↔ QS (.bk δ) := Iff.rfl
@[simp] theorem thenK_c : thenK gs QS (.ct δ) ↔ QS (.ct δ) := Iff.rfl
@[simp] theorem thenK_e {c p} : thenK gs QS (.ex c p) ↔ QS (.ex c p) := Iff.rfl
@[simp] theorem wp_sSeq : Wp (sSeq fs gs δ) QS ↔ Wp (fs δ) (thenK gs QS) := by
  unfold sSeq
  rcases fs δ with _ | o
  · simp
  cases o <;> simp [thenK]
@[simp] theorem wp_sNil : Wp (sNil δ) QS ↔ QS (.nx δ) := by simp [sNil]
@[simp] theorem wp_sSet {i : Nat} : Wp (sSet i f δ) QS ↔ Wp (f δ) fun p => free0 i p.2 = true ∧ QS (.nx (p.2.set i (.sh p.1))) := by
  unfold sSet
  rcases f δ with _ | ⟨x, δ1⟩ <;> simp
@[simp] theorem wp_sSetO {i : Nat} : Wp (sSetO i fa δ) QS ↔ Wp (fa δ) fun p => free0 i p.2 = true ∧ QS (.nx (p.2.set i (.ow (.lst p.1)))) := by
  unfold sSetO
  rcases fa δ with _ | ⟨x, δ1⟩ <;> simp
def pairK (Q : D → D → Prop) : List D → Prop
  | [d, d'] => Q d d'
  | _ => False
@[simp] theorem pairK_p {Q : D → D → Prop} {d d' : D} : pairK Q [d, d'] ↔ Q d d' := Iff.rfl
@[simp] theorem wp_sPar {i j : Nat} : Wp (sPar i j fa δ) QS ↔ Wp (fa δ) fun p => pairK (fun d d' => (free0 i p.2 = true ∧ free0 j p.2 = true) ∧ QS (.nx ((p.2.set i (.sh d)).set j (.sh d')))) p.1 := by
  unfold sPar
  rcases fa δ with _ | ⟨x, δ1⟩
  · simp
  match x with
  | [] => simp [pairK]
  | [_] => simp [pairK]
  | [a, b] => simp [pairK]
  | _ :: _ :: _ :: _ => simp [pairK]
@[simp] theorem wp_sParO {i j : Nat} : Wp (sParO i j fa g δ) QS ↔ Wp (fa δ) fun p => Wp (g p.2) fun q => (free0 i q.2 = true ∧ free0 j q.2 = true ∧ i ≠ j) ∧ QS (.nx ((q.2.set i (.ow p.1)).set j (.sh q.1))) := by
  unfold sParO
  rcases fa δ with _ | ⟨x, δ1⟩ <;> simp
  rcases g δ1 with _ | ⟨y, δ2⟩ <;> simp
@[simp] theorem wp_sAsg {gg : MG} : Wp (sAsg gg f δ) QS ↔ Wp (f δ) fun p => Wp (gg p.1 p.2) fun δ2 => QS (.nx δ2) := by
  unfold sAsg
  rcases f δ with _ | ⟨x, δ1⟩ <;> simp
  rcases gg x δ1 with _ | δ2 <;> simp
@[simp] theorem wp_sIf : Wp (sIf tf fs gs δ) QS ↔ Wp (tf δ) fun p => (p.1 = true → Wp (fs p.2) QS) ∧ (p.1 = false → Wp (gs p.2) QS) := by
  unfold sIf
  rcases tf δ with _ | ⟨x, δ1⟩
  · simp
  cases x <;> simp
@[simp] theorem wp_sRet : Wp (sRet f δ) QS ↔ Wp (f δ) fun p => QS (.rt p.1 p.2) := by
  unfold sRet
  rcases f δ with _ | ⟨x, δ1⟩ <;> simp
@[simp] theorem wp_sRetO {i : Nat} : Wp (sRetO i δ) QS ↔ ∃ xs, δ[i]? = some (.ow (.lst xs)) ∧ i ≠ 0 ∧ QS (.rt (.list xs) (δ.set i (.sh (.list xs)))) := by
  unfold sRetO
  rcases hx : δ[i]? with _ | s
  · simp
  rcases s with _ | d | (xs | kvs) | ns <;> simp
@[simp] theorem wp_sRetN : Wp (sRetN δ) QS ↔ QS (.rt .none δ) := by simp [sRetN]
@[simp] theorem wp_sPass : Wp (sPass δ) QS ↔ QS (.nx δ) := by simp [sPass]
@[simp] theorem wp_sBrk : Wp (sBrk δ) QS ↔ QS (.bk δ) := by simp [sBrk]
@[simp] theorem wp_sCnt : Wp (sCnt δ) QS ↔ QS (.ct δ) := by simp [sCnt]
@[simp] theorem wp_sRaise {c : Str} : Wp (sRaise c δ) QS ↔ QS (.ex c none) := by simp [sRaise]
@[simp] theorem wp_sApp {i : Nat} : Wp (sApp i f δ) QS ↔ isLst δ i = true ∧ Wp (f δ) fun p => ∃ xs, p.2[i]? = some (.ow (.lst xs)) ∧ xs.length < 100000 ∧ QS (.nx (p.2.set i (.ow (xs ++ [p.1])))) := by
  unfold sApp
  by_cases h : isLst δ i = true <;> simp [h]
  rcases f δ with _ | ⟨x, δ1⟩ <;> simp
  rcases δ1[i]? with _ | s
  · simp
  rcases s with _ | d | (xs | kvs) | ns <;> simp
@[simp] theorem wp_sFor {gg : MG} : Wp (sFor fa gg fs δ) QS ↔ Wp (fa δ) fun p => Wp (forRun gg fs p.1 p.2) QS := by
  unfold sFor
  rcases fa δ with _ | ⟨ds, δ1⟩ <;> simp
@[simp] theorem wp_sWhile {n : Nat} : Wp (sWhile n tf fs δ) QS ↔ Wp (whRun tf fs n δ) QS := Iff.rfl
/-- what a turn of a loop leaves -/
def loopK (N : DE → Prop) (Q : Out → Prop) : Out → Prop
  | .nx δ => N δ
  | .ct δ => N δ
  | .bk δ => Q (.nx δ)
  | .rt d δ => Q (.rt d δ)
  | .ex c p => Q (.ex c p)
@[simp] theorem loopK_n {N : DE → Prop} : loopK N QS (.nx δ) ↔ N δ := Iff.rfl
@[simp] theorem loopK_c {N : DE → Prop} : loopK N QS (.ct δ) ↔ N δ := Iff.rfl
@[simp] theorem loopK_b {N : DE → Prop} : loopK N QS (.bk δ) ↔ QS (.nx δ) := Iff.rfl
@[simp] theorem loopK_r {N : DE → Prop} : loopK N QS (.rt d δ) ↔ QS (.rt d δ) := Iff.rfl
@[simp] theorem loopK_e {N : DE → Prop} {c p} : loopK N QS (.ex c p) ↔ QS (.ex c p) := Iff.rfl
theorem wp_forNil {gg : MG} : Wp (forRun gg fs [] δ) QS ↔ QS (.nx δ) := by simp [forRun]
theorem wp_forCons {gg : MG} {ds : List D} : Wp (forRun gg fs (d :: ds) δ) QS ↔ Wp (gg d δ) fun δ1 => Wp (fs δ1) (loopK (fun δ2 => Wp (forRun gg fs ds δ2) QS) QS) := by
  simp only [forRun]
  rcases gg d δ with _ | δ1 <;> simp
  rcases fs δ1 with _ | o
  · simp
  cases o <;> simp [loopK]
/-- a loop by a word of what is left and of the slots -/
theorem wp_for {gg : MG} (I : List D → DE → Prop) : ∀ {ds : List D} {δ : DE}, I ds δ →
    (∀ d ds δ, I (d :: ds) δ → Wp (gg d δ) fun δ1 => Wp (fs δ1) (loopK (I ds) QS)) → (∀ δ, I [] δ → QS (.nx δ)) → Wp (forRun gg fs ds δ) QS
  | [], δ, h0, _, he => wp_forNil.mpr (he δ h0)
  | d :: ds, δ, h0, hs, he => by
    refine wp_forCons.mpr ((hs d ds δ h0).mono fun δ1 h1 => h1.mono fun o ho => ?_)
    cases o with
    | nx δ2 => exact wp_for I (ho : I ds δ2) hs he
    | ct δ2 => exact wp_for I (ho : I ds δ2) hs he
    | bk δ2 => exact ho
    | rt d δ2 => exact ho
    | ex c p => exact ho
/-- .. whose items are those of a typed list -/
theorem wp_forT {gg : MG} {α : Type} (en : α → D) (I : List α → DE → Prop) : ∀ {ds : List D} (xs : List α) {δ : DE}, ds = xs.map en → I xs δ →
    (∀ x xs δ, I (x :: xs) δ → Wp (gg (en x) δ) fun δ1 => Wp (fs δ1) (loopK (I xs) QS)) → (∀ δ, I [] δ → QS (.nx δ)) → Wp (forRun gg fs ds δ) QS
  | _, [], δ, e, h0, _, he => by
    subst e
    exact wp_forNil.mpr (he δ h0)
  | _, x :: xs, δ, e, h0, hs, he => by
    subst e
    refine wp_forCons.mpr ((hs x xs δ h0).mono fun δ1 h1 => h1.mono fun o ho => ?_)
    cases o with
    | nx δ2 => exact wp_forT en I xs rfl (ho : I xs δ2) hs he
    | ct δ2 => exact wp_forT en I xs rfl (ho : I xs δ2) hs he
    | bk δ2 => exact ho
    | rt d δ2 => exact ho
    | ex c p => exact ho
theorem wp_whZero : Wp (whRun tf fs 0 δ) QS ↔ False := by simp [whRun]
theorem wp_whSucc {n : Nat} : Wp (whRun tf fs (n + 1) δ) QS ↔ Wp (tf δ) fun p => (p.1 = false → QS (.nx p.2)) ∧ (p.1 = true → Wp (fs p.2) (loopK (fun δ2 => Wp (whRun tf fs n δ2) QS) QS)) := by
  simp only [whRun]
  rcases tf δ with _ | ⟨b, δ1⟩
  · simp
  cases b <;> simp
  rcases fs δ1 with _ | o
  · simp
  cases o <;> simp [loopK]
/-- a while by a word of a number that goes down -/
theorem wp_while (I : Nat → DE → Prop) {n : Nat} : ∀ {k : Nat} {δ : DE}, I k δ → k < n →
    (∀ k δ, I k δ → Wp (tf δ) fun p => (p.1 = false → QS (.nx p.2)) ∧ (p.1 = true → Wp (fs p.2) (loopK (fun δ2 => ∃ j, j < k ∧ I j δ2) QS))) → Wp (whRun tf fs n δ) QS := by
  induction n with
  | zero => intro k δ _ h; omega
  | succ n ih =>
    intro k δ h0 hk hs
    refine wp_whSucc.mpr ((hs k δ h0).mono fun p hp => ⟨hp.1, fun hb => (hp.2 hb).mono fun o ho => ?_⟩)
    cases o with
    | nx δ2 =>
      obtain ⟨j, hj, hI⟩ := (ho : ∃ j, j < k ∧ I j δ2)
      exact ih hI (by omega) hs
    | ct δ2 =>
      obtain ⟨j, hj, hI⟩ := (ho : ∃ j, j < k ∧ I j δ2)
      exact ih hI (by omega) hs
    | bk δ2 => exact ho
    | rt d δ2 => exact ho
    | ex c p => exact ho
/-! ### defs -/
/-- what a def leaves -/
def fnK (Q : Res → Prop) : Out → Prop
  | .rt d _ => Q (.ret d)
  | .nx _ => Q (.ret .none)
  | .ex c p => Q (.exc c p)
  | _ => False
@[simp] theorem fnK_r : fnK QF (.rt d δ) ↔ QF (.ret d) := Iff.rfl
@[simp] theorem fnK_n : fnK QF (.nx δ) ↔ QF (.ret .none) := Iff.rfl
@[simp] theorem fnK_e {c p} : fnK QF (.ex c p) ↔ QF (.exc c p) := Iff.rfl
@[simp] theorem fnK_b : fnK QF (.bk δ) ↔ False := Iff.rfl
@[simp] theorem fnK_c : fnK QF (.ct δ) ↔ False := Iff.rfl
@[simp] theorem wp_mOf {n p : Nat} {ds : List D} : Wp (mOf n p fs ds) QF ↔ ds.length = p ∧ Wp (fs (ds.map .sh ++ List.replicate (n - p) .no)) (fnK QF) := by
  unfold mOf
  by_cases h : ds.length = p
  · rw [if_pos h]
    generalize fs _ = z
    rcases z with _ | o
    · simp
    cases o <;> simp [fnK, h]
  · rw [if_neg h]
    simp [h]
/-- what a def with a lent list leaves -/
def cupK (Q : D × List D → Prop) : Out → Prop
  | .rt d δ => ∃ ys, δ[0]? = some (.ow (.lst ys)) ∧ Q (d, ys)
  | .nx δ => ∃ ys, δ[0]? = some (.ow (.lst ys)) ∧ Q (.none, ys)
  | _ => False
@[simp] theorem cupK_r : cupK QC (.rt d δ) ↔ ∃ ys, δ[0]? = some (.ow (.lst ys)) ∧ QC (d, ys) := Iff.rfl
@[simp] theorem cupK_n : cupK QC (.nx δ) ↔ ∃ ys, δ[0]? = some (.ow (.lst ys)) ∧ QC (.none, ys) := Iff.rfl
@[simp] theorem cupK_e {c p} : cupK QC (.ex c p) ↔ False := Iff.rfl
@[simp] theorem cupK_b : cupK QC (.bk δ) ↔ False := Iff.rfl
@[simp] theorem cupK_c : cupK QC (.ct δ) ↔ False := Iff.rfl
@[simp] theorem wp_mOfC {n p : Nat} {xs ds : List D} : Wp (mOfC n p fs xs ds) QC ↔ ds.length + 1 = p ∧ Wp (fs (.ow xs :: (ds.map .sh ++ List.replicate (n - p) .no))) (cupK QC) := by
  unfold mOfC
  by_cases h : ds.length + 1 = p
  · rw [if_pos h]
    generalize fs _ = z
    rcases z with _ | o
    · simp
    cases o
    case nx δ' =>
      rcases hx : δ'[0]? with _ | s
      · simp [cupK, hx]
      rcases s with _ | d | (xs | kvs) | ns <;> simp [cupK, hx, h]
    case rt d δ' =>
      rcases hx : δ'[0]? with _ | s
      · simp [cupK, hx]
      rcases s with _ | d | (xs | kvs) | ns <;> simp [cupK, hx, h]
    all_goals simp [cupK]
  · rw [if_neg h]
    simp [h]
/-- what the law leaves -/
def lawK (Q : D → Prop) : Out → Prop
  | .rt d _ => Q d
  | _ => False
@[simp] theorem lawK_r : lawK QD (.rt d δ) ↔ QD d := Iff.rfl
@[simp] theorem lawK_n : lawK QD (.nx δ) ↔ False := Iff.rfl
@[simp] theorem lawK_e {c p} : lawK QD (.ex c p) ↔ False := Iff.rfl
@[simp] theorem wp_mOfL {n : Nat} {ns : List Int} : Wp (mOfL n fs ns) QD ↔ Wp (fs (.scr ns :: List.replicate (n - 1) .no)) (lawK QD) := by
  unfold mOfL
  rcases fs (.scr ns :: List.replicate (n - 1) .no) with _ | o
  · simp
  cases o <;> simp [lawK]
@[simp] theorem wp_oSeq : Wp (oSeq fs fa δ) QA ↔ Wp (fs δ) fun o => ∃ δ1, o = .nx δ1 ∧ Wp (fa δ1) QA := by
  unfold oSeq
  rcases fs δ with _ | o
  · simp
  cases o <;> simp
@[simp] theorem wp_mOfO {n : Nat} {ns : List Int} {QL : List D → Prop} : Wp (mOfO n fa ns) QL ↔ Wp (fa (.scr ns :: List.replicate (n - 1) .no)) fun p => QL p.1 := by
  unfold mOfO
  rcases fa (.scr ns :: List.replicate (n - 1) .no) with _ | ⟨xs, δ⟩ <;> simp
end
/-! ### slots at hand -/
@[simp] theorem isOw_cons0 {xs : Ob} {r : DE} : isOw (.ow xs :: r) 0 = true := rfl
@[simp] theorem isLst_cons0 {xs : List D} {r : DE} : isLst (.ow (.lst xs) :: r) 0 = true := rfl
@[simp] theorem isLst_succ {s : Slot} {r : DE} {i : Nat} : isLst (s :: r) (i + 1) = isLst r i := by simp [isLst]
@[simp] theorem isOw_succ {s : Slot} {r : DE} {i : Nat} : isOw (s :: r) (i + 1) = isOw r i := by simp [isOw]
@[simp] theorem isOw_at0 {s : Slot} {r : DE} : isOw (s :: r) 0 = (match s with | .ow _ => true | _ => false) := by cases s <;> rfl
@[simp] theorem free0_succ {i : Nat} : free0 (i + 1) δ = true := by
  unfold free0
  rcases δ[0]? with _ | s
  · rfl
  cases s <;> rfl
@[simp] theorem free0_sh {d : D} {r : DE} : free0 0 (.sh d :: r) = true := rfl
@[simp] theorem free0_no {r : DE} : free0 0 (.no :: r) = true := rfl
@[simp] theorem free0_scr {ns : List Int} {r : DE} : free0 0 (.scr ns :: r) = true := rfl
@[simp] theorem free0_ow {xs : Ob} {r : DE} : free0 0 (.ow xs :: r) = false := rfl
@[simp] theorem noOwn_nil : noOwn [] δ = true := rfl
@[simp] theorem noOwn_cons {v : Nat} {vs : List Nat} : noOwn (v :: vs) δ = (!isOw δ v && noOwn vs δ) := by
  unfold noOwn isOw
  rw [List.all_cons]
  rcases δ[v]? with _ | s
  · rfl
  cases s <;> rfl
@[simp] theorem wipeD_nil : wipeD δ [] = δ := rfl
@[simp] theorem wipeD_cons {v : Nat} {vs : List Nat} : wipeD δ (v :: vs) = (wipeD δ vs).set v .no := rfl
@[simp] theorem mergeD_nil {δ1 : DE} : mergeD δ1 δ [] = δ := rfl
@[simp] theorem mergeD_cons {δ1 : DE} {v : Nat} {vs : List Nat} : mergeD δ1 δ (v :: vs) = (mergeD δ1 δ vs).set v (δ1[v]?.getD .no) := rfl
/-! ### operators -/
section
variable {i j : Int} {xs ys : List D} {x y : Str} {a b : Bool}
@[simp] theorem wp_add_i : Wp (opAdd (.int i) (.int j)) QD ↔ QD (.int (i + j)) := by simp [opAdd]
@[simp] theorem wp_add_t : Wp (opAdd (.tuple xs) (.tuple ys)) QD ↔ xs.length + ys.length ≤ 100000 ∧ QD (.tuple (xs ++ ys)) := by simp [opAdd]
@[simp] theorem wp_add_l : Wp (opAdd (.list xs) (.list ys)) QD ↔ xs.length + ys.length ≤ 100000 ∧ QD (.list (xs ++ ys)) := by simp [opAdd]
@[simp] theorem wp_add_s : Wp (opAdd (.str x) (.str y)) QD ↔ x.length + y.length ≤ 100000 ∧ QD (.str (x ++ y)) := by simp [opAdd]
@[simp] theorem wp_sub_i : Wp (opSub (.int i) (.int j)) QD ↔ QD (.int (i - j)) := by simp [opSub]
@[simp] theorem wp_mul_i : Wp (opMul (.int i) (.int j)) QD ↔ (small i || small j) = true ∧ QD (.int (i * j)) := by simp [opMul]
@[simp] theorem wp_mul_l : Wp (opMul (.list xs) (.int j)) QD ↔ (0 ≤ j ∧ j ≤ 1000 ∧ xs.length ≤ 100) ∧ QD (.list (List.replicate j.toNat xs).flatten) := by simp [opMul]
@[simp] theorem wp_mul_t : Wp (opMul (.tuple xs) (.int j)) QD ↔ (-1000 ≤ j ∧ j ≤ 1000 ∧ xs.length ≤ 100) ∧ QD (.tuple (List.replicate j.toNat xs).flatten) := by simp [opMul]
@[simp] theorem wp_div_i : Wp (opDiv (.int i) (.int j)) QD ↔ (j ≠ 0 ∧ j.natAbs < 1073741824) ∧ QD (.int (i.fdiv j)) := by simp [opDiv]
@[simp] theorem wp_mod_i : Wp (opMod (.int i) (.int j)) QD ↔ j ≠ 0 ∧ QD (.int (i.fmod j)) := by simp [opMod]
@[simp] theorem wp_pow_i : Wp (opPow (.int i) (.int j)) QD ↔ (0 ≤ j ∧ j ≤ 1000 ∧ small i = true) ∧ QD (.int (i ^ j.toNat)) := by simp [opPow]
@[simp] theorem wp_lt_i {QB : Bool → Prop} : Wp (cLt (.int i) (.int j)) QB ↔ QB (decide (i < j)) := by simp [cLt]
@[simp] theorem wp_le_i {QB : Bool → Prop} : Wp (cLe (.int i) (.int j)) QB ↔ QB (decide (i ≤ j)) := by simp [cLe]
@[simp] theorem wp_gt_i {QB : Bool → Prop} : Wp (cGt (.int i) (.int j)) QB ↔ QB (decide (j < i)) := by simp [cGt]
@[simp] theorem wp_ge_i {QB : Bool → Prop} : Wp (cGe (.int i) (.int j)) QB ↔ QB (decide (j ≤ i)) := by simp [cGe]
@[simp] theorem wp_eq {QB : Bool → Prop} {d e : D} : Wp (cEq d e) QB ↔ (SeqAt.shaped d = true ∧ SeqAt.shaped e = true) ∧ QB (PyData.eqv d e) := by simp [cEq]
@[simp] theorem wp_ne {QB : Bool → Prop} {d e : D} : Wp (cNe d e) QB ↔ (SeqAt.shaped d = true ∧ SeqAt.shaped e = true) ∧ QB (!PyData.eqv d e) := by simp [cNe]
@[simp] theorem wp_isn {QB : Bool → Prop} {d : D} : Wp (cIs d .none) QB ↔ QB (isNone d) := by cases d <;> simp [cIs]
@[simp] theorem wp_isb {QB : Bool → Prop} : Wp (cIs (.bool a) (.bool b)) QB ↔ QB (decide (a = b)) := by simp [cIs]
@[simp] theorem wp_notn {QB : Bool → Prop} {d : D} : Wp (cIsN d .none) QB ↔ QB (!isNone d) := by cases d <;> simp [cIsN]
@[simp] theorem wp_notb {QB : Bool → Prop} : Wp (cIsN (.bool a) (.bool b)) QB ↔ QB (!decide (a = b)) := by simp [cIsN]
@[simp] theorem wp_truth_b {QB : Bool → Prop} : Wp (truth (.bool a)) QB ↔ QB a := by simp [truth]
@[simp] theorem wp_truth_i {QB : Bool → Prop} : Wp (truth (.int i)) QB ↔ QB (i != 0) := by simp [truth]
@[simp] theorem wp_truth_n {QB : Bool → Prop} : Wp (truth .none) QB ↔ QB false := by simp [truth]
@[simp] theorem wp_truth_l {QB : Bool → Prop} : Wp (truth (.list xs)) QB ↔ QB (!xs.isEmpty) := by simp [truth]
@[simp] theorem wp_truth_t {QB : Bool → Prop} : Wp (truth (.tuple xs)) QB ↔ QB (!xs.isEmpty) := by simp [truth]
@[simp] theorem wp_ix_l : Wp (ixD (.list xs) (.int i)) QD ↔ Wp (atI xs i) QD := Iff.rfl
@[simp] theorem wp_ix_t : Wp (ixD (.tuple xs) (.int i)) QD ↔ Wp (atI xs i) QD := Iff.rfl
@[simp] theorem wp_len_l : Wp (uLen (.list xs)) QD ↔ QD (.int xs.length) := by simp [uLen]
@[simp] theorem wp_len_t : Wp (uLen (.tuple xs)) QD ↔ QD (.int xs.length) := by simp [uLen]
@[simp] theorem wp_tup_l : Wp (uTup (.list xs)) QD ↔ QD (.tuple xs) := by simp [uTup]
@[simp] theorem wp_tup_t : Wp (uTup (.tuple xs)) QD ↔ QD (.tuple xs) := by simp [uTup]
@[simp] theorem wp_list_l {QL : List D → Prop} : Wp (uList (.list xs)) QL ↔ QL xs := by simp [uList]
@[simp] theorem wp_list_t {QL : List D → Prop} : Wp (uList (.tuple xs)) QL ↔ QL xs := by simp [uList]
@[simp] theorem wp_abs : Wp (uAbs (.int i)) QD ↔ QD (.int (if i < 0 then -i else i)) := by simp [uAbs]
@[simp] theorem wp_int_i : Wp (uInt (.int i)) QD ↔ QD (.int i) := by simp [uInt]
@[simp] theorem wp_not_in {QB : Bool → Prop} {d e : D} : Wp (cNotIn d e) QB ↔ Wp (cIn d e) fun k => QB (!k) := by simp [cNotIn]
end
end
end Sd

/-! Facts of operators, tests and typed data for Wp. -/
namespace Sd
open PySem PySem.Spec PyProof.Rows L2
section
variable {QD : D → Prop} {QB : Bool → Prop} {QA : List D × DE → Prop} {Q : D × DE → Prop} {δ : DE}
@[simp] theorem is_tuple_n : uIs "tuple" .none = some (.bool false) := by rfl
@[simp] theorem is_tuple_b {k : Bool} : uIs "tuple" (.bool k) = some (.bool false) := by rfl
@[simp] theorem is_tuple_i {i : Int} : uIs "tuple" (.int i) = some (.bool false) := by rfl
@[simp] theorem is_tuple_s {x : Str} : uIs "tuple" (.str x) = some (.bool false) := by rfl
@[simp] theorem is_tuple_l {ds : List D} : uIs "tuple" (.list ds) = some (.bool false) := by rfl
@[simp] theorem is_tuple_t {ds : List D} : uIs "tuple" (.tuple ds) = some (.bool true) := by rfl
@[simp] theorem is_list_n : uIs "list" .none = some (.bool false) := by rfl
@[simp] theorem is_list_b {k : Bool} : uIs "list" (.bool k) = some (.bool false) := by rfl
@[simp] theorem is_list_i {i : Int} : uIs "list" (.int i) = some (.bool false) := by rfl
@[simp] theorem is_list_s {x : Str} : uIs "list" (.str x) = some (.bool false) := by rfl
@[simp] theorem is_list_l {ds : List D} : uIs "list" (.list ds) = some (.bool true) := by rfl
@[simp] theorem is_list_t {ds : List D} : uIs "list" (.tuple ds) = some (.bool false) := by rfl
@[simp] theorem is_int_n : uIs "int" .none = some (.bool false) := by rfl
@[simp] theorem is_int_b {k : Bool} : uIs "int" (.bool k) = some (.bool true) := by rfl
@[simp] theorem is_int_i {i : Int} : uIs "int" (.int i) = some (.bool true) := by rfl
@[simp] theorem is_int_s {x : Str} : uIs "int" (.str x) = some (.bool false) := by rfl
@[simp] theorem is_int_l {ds : List D} : uIs "int" (.list ds) = some (.bool false) := by rfl
@[simp] theorem is_int_t {ds : List D} : uIs "int" (.tuple ds) = some (.bool false) := by rfl
@[simp] theorem is_bool_n : uIs "bool" .none = some (.bool false) := by rfl
@[simp] theorem is_bool_b {k : Bool} : uIs "bool" (.bool k) = some (.bool true) := by rfl
@[simp] theorem is_bool_i {i : Int} : uIs "bool" (.int i) = some (.bool false) := by rfl
@[simp] theorem is_bool_s {x : Str} : uIs "bool" (.str x) = some (.bool false) := by rfl
@[simp] theorem is_bool_l {ds : List D} : uIs "bool" (.list ds) = some (.bool false) := by rfl
@[simp] theorem is_bool_t {ds : List D} : uIs "bool" (.tuple ds) = some (.bool false) := by rfl
@[simp] theorem is_str_n : uIs "str" .none = some (.bool false) := by rfl
@[simp] theorem is_str_b {k : Bool} : uIs "str" (.bool k) = some (.bool false) := by rfl
@[simp] theorem is_str_i {i : Int} : uIs "str" (.int i) = some (.bool false) := by rfl
@[simp] theorem is_str_s {x : Str} : uIs "str" (.str x) = some (.bool true) := by rfl
@[simp] theorem is_str_l {ds : List D} : uIs "str" (.list ds) = some (.bool false) := by rfl
@[simp] theorem is_str_t {ds : List D} : uIs "str" (.tuple ds) = some (.bool false) := by rfl
@[simp] theorem isNone_n : isNone .none = true := rfl
@[simp] theorem isNone_b {k : Bool} : isNone (.bool k) = false := rfl
@[simp] theorem isNone_i {i : Int} : isNone (.int i) = false := rfl
@[simp] theorem isNone_s {x : Str} : isNone (.str x) = false := rfl
@[simp] theorem isNone_l {ds : List D} : isNone (.list ds) = false := rfl
@[simp] theorem isNone_t {ds : List D} : isNone (.tuple ds) = false := rfl
/-! ### depth -/
/-- data that can be compared, at most n deep -/
def shn (n : Nat) (d : D) : Bool := d.canLay0 && decide (d.depth ≤ n)
@[simp] theorem shaped_eq {d : D} : SeqAt.shaped d = shn 64 d := rfl
theorem shn_all {n : Nat} : ∀ {ds : List D}, (PyData.canLayAll0 ds && decide (PyData.depthAll ds ≤ n)) = ds.all (shn n)
  | [] => by simp [PyData.canLayAll0, PyData.depthAll]
  | d :: r => by
    rw [List.all_cons, ← shn_all, Bool.eq_iff_iff]
    simp only [Bool.and_eq_true, decide_eq_true_eq, PyData.canLayAll0, PyData.depthAll, shn, Nat.max_le]
    exact ⟨fun ⟨⟨a, b⟩, c, e⟩ => ⟨⟨a, c⟩, b, e⟩, fun ⟨⟨a, c⟩, b, e⟩ => ⟨⟨a, b⟩, c, e⟩⟩
@[simp] theorem shn_i {n : Nat} {i : Int} : shn n (.int i) = true := by simp [shn, PyData.canLay0, PyData.depth]
@[simp] theorem shn_n {n : Nat} : shn n .none = true := by simp [shn, PyData.canLay0, PyData.depth]
@[simp] theorem shn_b {n : Nat} {k : Bool} : shn n (.bool k) = true := by simp [shn, PyData.canLay0, PyData.depth]
@[simp] theorem shn_l {n : Nat} {ds : List D} : shn (n + 1) (.list ds) = ds.all (shn n) := by
  rw [← shn_all]
  simp [shn, PyData.canLay0, PyData.depth]
@[simp] theorem shn_t {n : Nat} {ds : List D} : shn (n + 1) (.tuple ds) = ds.all (shn n) := by
  rw [← shn_all]
  simp [shn, PyData.canLay0, PyData.depth]
@[simp] theorem shn_tI {n : Nat} {ns : List Int} : shn (n + 1) (tI ns) = true := by
  unfold tI
  rw [shn_t]
  simp
theorem eqv_self {d : D} (h : shn 64 d = true) : PyData.eqv d d = true := PySem.SeqAt.eqv_refl d (SeqAt.canLay_of_shaped h)
/-! ### what is equal -/
@[simp] theorem eqv_ii {i j : Int} : PyData.eqv (.int i) (.int j) = decide (i = j) := by simp only [PyData.eqv]; rfl
@[simp] theorem eqv_bb {i j : Bool} : PyData.eqv (.bool i) (.bool j) = decide (i = j) := by simp only [PyData.eqv]; cases i <;> cases j <;> rfl
@[simp] theorem eqv_ss {i j : Str} : PyData.eqv (.str i) (.str j) = decide (i = j) := by simp only [PyData.eqv]; rfl
@[simp] theorem eqv_nn : PyData.eqv .none .none = true := by simp [PyData.eqv]
@[simp] theorem eqv_ni {i : Int} : PyData.eqv .none (.int i) = false := by simp [PyData.eqv]
@[simp] theorem eqv_in {i : Int} : PyData.eqv (.int i) .none = false := by simp [PyData.eqv]
@[simp] theorem eqv_nt {ds : List D} : PyData.eqv .none (.tuple ds) = false := by simp [PyData.eqv]
@[simp] theorem eqv_tn {ds : List D} : PyData.eqv (.tuple ds) .none = false := by simp [PyData.eqv]
@[simp] theorem eqv_nl {ds : List D} : PyData.eqv .none (.list ds) = false := by simp [PyData.eqv]
@[simp] theorem eqv_ln {ds : List D} : PyData.eqv (.list ds) .none = false := by simp [PyData.eqv]
@[simp] theorem eqv_it {i : Int} {ds : List D} : PyData.eqv (.int i) (.tuple ds) = false := by simp [PyData.eqv]
@[simp] theorem eqv_ti {i : Int} {ds : List D} : PyData.eqv (.tuple ds) (.int i) = false := by simp [PyData.eqv]
@[simp] theorem eqv_tt {xs ys : List D} : PyData.eqv (.tuple xs) (.tuple ys) = PyData.eqvAll xs ys := by simp [PyData.eqv]
@[simp] theorem eqv_ll {xs ys : List D} : PyData.eqv (.list xs) (.list ys) = PyData.eqvAll xs ys := by simp [PyData.eqv]
@[simp] theorem eqvAll_nn : PyData.eqvAll [] [] = true := by simp [PyData.eqvAll]
@[simp] theorem eqvAll_cn {x : D} {xs : List D} : PyData.eqvAll (x :: xs) [] = false := by simp [PyData.eqvAll]
@[simp] theorem eqvAll_nc {x : D} {xs : List D} : PyData.eqvAll [] (x :: xs) = false := by simp [PyData.eqvAll]
@[simp] theorem eqvAll_cc {x y : D} {xs ys : List D} : PyData.eqvAll (x :: xs) (y :: ys) = (PyData.eqv x y && PyData.eqvAll xs ys) := by simp [PyData.eqvAll]
theorem eqvAll_map {α : Type} [DecidableEq α] {f : α → D} (h : ∀ a b, PyData.eqv (f a) (f b) = decide (a = b)) : ∀ xs ys : List α, PyData.eqvAll (xs.map f) (ys.map f) = decide (xs = ys)
  | [], [] => by simp
  | [], _ :: _ => by simp
  | _ :: _, [] => by simp
  | x :: xs, y :: ys => by simp [h, eqvAll_map h xs ys]
@[simp] theorem eqvAll_ii {xs ys : List Int} : PyData.eqvAll (xs.map .int) (ys.map .int) = decide (xs = ys) := eqvAll_map (fun _ _ => eqv_ii) xs ys
@[simp] theorem eqv_tItI {a b : List Int} : PyData.eqv (tI a) (tI b) = decide (a = b) := by unfold tI; simp
@[simp] theorem eqvAll_tI {xs ys : List (List Int)} : PyData.eqvAll (xs.map tI) (ys.map tI) = decide (xs = ys) := eqvAll_map (fun _ _ => eqv_tItI) xs ys
@[simp] theorem eqv_tIn {a : List Int} : PyData.eqv (tI a) .none = false := by simp [tI]
@[simp] theorem eqv_ntI {a : List Int} : PyData.eqv .none (tI a) = false := by simp [tI]
@[simp] theorem eqvAll_nil {xs : List D} : PyData.eqvAll xs [] = xs.isEmpty := by cases xs <;> simp
/-! ### tuples of whole numbers -/
variable {ns ms : List Int} {i : Int} {pl ph : PO'} {g : M}
@[simp] theorem seqK_tI : seqK QA (tI ns, δ) ↔ QA (ns.map .int, δ) := Iff.rfl
@[simp] theorem zipK_tI : zipK g QA (tI ns, δ) ↔ Wp (g δ) fun q => ∃ ys, q.1 = .tuple ys ∧ QA (zipD (ns.map .int) ys, q.2) := Iff.rfl
@[simp] theorem wp_add_tI : Wp (opAdd (tI ns) (tI ms)) QD ↔ ns.length + ms.length ≤ 100000 ∧ QD (tI (ns ++ ms)) := by simp [tI]
@[simp] theorem wp_add_tI1 : Wp (opAdd (tI ns) (.tuple [.int i])) QD ↔ ns.length + 1 ≤ 100000 ∧ QD (tI (ns ++ [i])) := by simp [tI]
@[simp] theorem wp_len_tI : Wp (uLen (tI ns)) QD ↔ QD (.int ns.length) := by simp [tI]
@[simp] theorem wp_tup_tI : Wp (uTup (tI ns)) QD ↔ QD (tI ns) := by simp [tI]
@[simp] theorem wp_list_tI {QL : List D → Prop} : Wp (uList (tI ns)) QL ↔ QL (ns.map .int) := by simp [tI]
@[simp] theorem is_tuple_tI : uIs "tuple" (tI ns) = some (.bool true) := rfl
@[simp] theorem wp_truth_tI : Wp (truth (tI ns)) QB ↔ QB (!ns.isEmpty) := by simp [tI]
@[simp] theorem isNone_tI : isNone (tI ns) = false := rfl
theorem atI_map {α β : Type} (f : α → β) (xs : List α) (i : Int) : atI (xs.map f) i = (atI xs i).map f := by
  unfold atI
  rw [List.length_map]
  cases ixN xs.length i with
  | none => rfl
  | some j => simp
@[simp] theorem wp_ix_tI : Wp (ixD (tI ns) (.int i)) QD ↔ Wp (atI ns i) fun v => QD (.int v) := by
  show Wp (atI (ns.map PyData.int) i) QD ↔ _
  rw [atI_map]
  simp
@[simp] theorem wp_atI_map {α : Type} {f : α → D} {xs : List α} : Wp (atI (xs.map f) i) QD ↔ Wp (atI xs i) fun v => QD (f v) := by
  rw [atI_map]
  simp
theorem wp_atI {α : Type} {xs : List α} {k : Nat} {Q : α → Prop} (h : k < xs.length) (q : Q xs[k]) : Wp (atI xs (k : Int)) Q := wp_of_eq (atI_nat (List.getElem?_eq_getElem h)) q
theorem wp_atI_int {α : Type} {xs : List α} {Q : α → Prop} (h0 : 0 ≤ i) (h : i < xs.length) (q : Q (xs[i.toNat]'(by omega))) : Wp (atI xs i) Q := by
  obtain ⟨k, rfl⟩ : ∃ k : Nat, i = k := ⟨i.toNat, by omega⟩
  exact wp_atI (by omega) q
theorem wp_ixN {n k : Nat} {Q : Nat → Prop} (h : k < n) (q : Q k) : Wp (ixN n (k : Int)) Q := wp_of_eq (Evl.ixN_nat h) q
/-- a comprehension without a test -/
theorem wp_cAll {gg : MG} {f : M} {vs : List Nat} {ds : List D} {α : Type} (en : α → D) (xs : List α) (o : α → D) (hd : ds = xs.map en)
    (hs : ∀ x ∈ xs, Wp (gg (en x) δ) fun δ1 => Wp (f δ1) fun q => q.1 = o x ∧ wipeD q.2 vs = δ) (he : QA (xs.map o, δ)) : Wp (cRun gg tTrue f vs ds δ) QA :=
  wp_cMap en xs (fun _ => true) o hd (fun x hx => (hs x hx).mono fun δ1 h => by simpa using h) (by rw [List.filter_eq_self.mpr fun _ _ => rfl]; exact he)
/-- a loop by a word of how many turns are behind it -/
theorem wp_forI {fs : MS} {QS : Out → Prop} {gg : MG} {ds : List D} (I : Nat → DE → Prop) (h0 : I 0 δ)
    (hs : ∀ i d δ, ds[i]? = some d → I i δ → Wp (gg d δ) fun δ1 => Wp (fs δ1) (loopK (I (i + 1)) QS)) (he : ∀ δ, I ds.length δ → QS (.nx δ)) : Wp (forRun gg fs ds δ) QS := by
  refine wp_for (fun rem δ => ∃ i, ds.drop i = rem ∧ i ≤ ds.length ∧ I i δ) ⟨0, List.drop_zero, Nat.zero_le _, h0⟩ (fun d rem δ h => ?_) (fun δ h => ?_)
  · obtain ⟨i, e, hi, h⟩ := h
    have hl : i < ds.length := by
      rcases Nat.lt_or_ge i ds.length with q | q
      · exact q
      · rw [List.drop_of_length_le q] at e
        cases e
    have e1 : ds[i]? = some d := by
      rw [← List.head?_drop, e]
      rfl
    have e2 : ds.drop (i + 1) = rem := by
      rw [← List.tail_drop, e]
      rfl
    refine (hs i d δ e1 h).mono fun δ1 h1 => h1.mono fun o ho => ?_
    cases o with
    | nx δ2 => exact ⟨i + 1, e2, hl, ho⟩
    | ct δ2 => exact ⟨i + 1, e2, hl, ho⟩
    | bk δ2 => exact ho
    | rt d δ2 => exact ho
    | ex c p => exact ho
  · obtain ⟨i, e, hi, h⟩ := h
    have : i = ds.length := by
      have := congrArg List.length e
      simp at this
      omega
    subst this
    exact he δ h
@[simp] theorem len_enumD : ∀ {k : Nat} {xs : List D}, (enumD k xs).length = xs.length
  | _, [] => rfl
  | i, x :: xs => by simp only [enumD, List.length_cons, len_enumD (k := i + 1) (xs := xs)]
theorem get_enumD : ∀ (k : Nat) (xs : List D) (i : Nat) (d : D), (enumD k xs)[i]? = some d → ∃ x, xs[i]? = some x ∧ d = wP [.int ((k + i : Nat) : Int), x]
  | k, [], i, d, h => by simp [enumD] at h
  | k, x :: xs, 0, d, h => ⟨x, rfl, (Option.some.inj h).symm⟩
  | k, x :: xs, i + 1, d, h => by
    obtain ⟨z, h1, h2⟩ := get_enumD (k + 1) xs i d h
    exact ⟨z, h1, by rw [h2, show k + 1 + i = k + (i + 1) by omega]⟩
/-- .. over enumerate -/
theorem wp_forE {fs : MS} {QS : Out → Prop} {gg : MG} {α : Type} (en : α → D) (xs : List α) (I : Nat → DE → Prop) (h0 : I 0 δ)
    (hs : ∀ i x δ, xs[i]? = some x → I i δ → Wp (gg (wP [.int (i : Nat), en x]) δ) fun δ1 => Wp (fs δ1) (loopK (I (i + 1)) QS)) (he : ∀ δ, I xs.length δ → QS (.nx δ)) : Wp (forRun gg fs (enumD 0 (xs.map en)) δ) QS := by
  refine wp_forI I h0 (fun i d δ hd h => ?_) (fun δ h => he δ (by simpa using h))
  obtain ⟨x, hx, rfl⟩ := get_enumD _ _ _ _ hd
  rw [List.getElem?_map] at hx
  cases hq : xs[i]? with
  | none =>
    rw [hq] at hx
    cases hx
  | some y =>
    rw [hq] at hx
    cases hx
    rw [Nat.zero_add]
    exact hs i y δ hq h
/-- what is returned -/
def lawRes : Option Out → Option D
  | some (.rt d _) => some d
  | _ => none
theorem wp_lawK_of {o : Option Out} {d : D} (h : lawRes o = some d) : Wp o (lawK (· = d)) := by
  rcases o with _ | o
  · cases h
  · cases o with
    | rt e δ => exact ⟨_, rfl, Option.some.inj h⟩
    | _ => cases h
end
end Sd

/-! Dicts. -/
namespace Sd
open PySem PySem.Spec PyProof.Rows L2
open Evl (Ex)
/-! ### keys -/
def keyOf : D → Option Key
  | .int i => some (.inl i)
  | .str x => some (.inr x)
  | _ => none
def keysL : List D → Option (List Key)
  | [] => some []
  | d :: r => match keyOf d, keysL r with
    | some k, some ks => some (k :: ks)
    | _, _ => none
def keysOf (_ : D) : Option (List Key) := none
theorem keyOf_eq {d : D} {k : Key} (h : keyOf d = some k) : d = keyD k := by
  cases d <;> simp only [keyOf] at h <;> cases h <;> rfl
theorem keysL_eq : ∀ {ds : List D} {ks : List Key}, keysL ds = some ks → ds = ks.map keyD
  | [], ks, h => by cases h; rfl
  | d :: r, ks, h => by
    simp only [keysL] at h
    cases h1 : keyOf d with
    | none => rw [h1] at h; cases h
    | some k =>
      cases h2 : keysL r with
      | none => rw [h1, h2] at h; cases h
      | some ks' =>
        rw [h1, h2] at h
        cases h
        rw [List.map_cons, ← keyOf_eq h1, ← keysL_eq h2]
theorem keysOf_eq {d : D} {ks : List Key} (h : keysOf d = some ks) : False := by cases h
theorem keyOf_keyD (k : Key) : keyOf (keyD k) = some k := by cases k <;> rfl
theorem keysL_map : ∀ ks : List Key, keysL (ks.map keyD) = some ks
  | [] => rfl
  | k :: r => by rw [List.map_cons]; simp only [keysL, keyOf_keyD, keysL_map r]
theorem dq_key {S : Hp} {v : V} {k : Key} (h : Dq S v (keyD k)) : v = kV k := by
  cases k with
  | inl i => exact dq_int h
  | inr x => exact dq_str h
theorem dqa_kV {S : Hp} : ∀ {vs : List V} {ks : List Key}, DqAll S vs (ks.map keyD) → vs = ks.map kV
  | vs, [], h => by cases h; rfl
  | vs, k :: r, h => by
    rw [List.map_cons] at h
    cases h with
    | cons a t => rw [dq_key a, dqa_kV t, List.map_cons]
@[simp] theorem eqv_keyD (a b : Key) : PyData.eqv (keyD a) (keyD b) = decide (a = b) := by
  cases a <;> cases b <;> simp [keyD, PyData.eqv]
@[simp] theorem eqv_keysD (a b : List Key) : PyData.eqv (keysD a) (keysD b) = decide (a = b) := by
  unfold keysD
  rw [eqv_tt]
  exact eqvAll_map eqv_keyD a b
/-! ### what dicts hold -/
/-- whether the keys are tuples -/
def isTk : List (D × D) → Bool
  | (.none, _) :: _ => true
  | _ => false
@[simp] theorem isTk_nil : isTk [] = false := rfl
@[simp] theorem isTk_cons_n {v : D} {r : List (D × D)} : isTk ((.none, v) :: r) = true := rfl
@[simp] theorem isTk_cons_i {i : Int} {v : D} {r : List (D × D)} : isTk ((.int i, v) :: r) = false := rfl
theorem isTk_kD (kk : List (Key × D)) : isTk (kD kk) = false := by
  cases kk with
  | nil => rfl
  | cons p r => obtain ⟨k, v⟩ := p; cases k <;> rfl
theorem isTk_tD (kk : List (List Key × D)) : isTk (tD kk) = true := rfl
def fits (kvs : List (D × D)) (k : D) : Bool := if isTk kvs = true then (keysOf k).isSome else (keyOf k).isSome
def lkD (kvs : List (D × D)) (k : D) : Option D := (kvs.find? fun p => PyData.eqv p.1 k).map (·.2)
def dGet (kvs : List (D × D)) (k : D) : Option (Option D) := if fits kvs k = true then some (lkD kvs k) else none
def putD (kvs : List (D × D)) (k v : D) : List (D × D) := if (kvs.any fun p => PyData.eqv p.1 k) = true then kvs.map fun p => if PyData.eqv p.1 k = true then (p.1, v) else p else kvs ++ [(k, v)]
def dPut (kvs : List (D × D)) (k v : D) : Option (List (D × D)) := if fits kvs k = true ∧ kvs.length ≤ 100000 then some (putD kvs k v) else none
section
variable {κ : Type} [DecidableEq κ]
theorem look_rel {S : Hp} {enc : κ → D} (he : ∀ a b, PyData.eqv (enc a) (enc b) = decide (a = b)) (k : κ) : ∀ {kws : List (κ × V)} {kk : List (κ × D)}, kws.map (·.1) = kk.map (·.1) → DqAll S (kws.map (·.2)) (kk.map (·.2)) →
    (valV kws k = none ∧ lkD (kk.map fun p => (enc p.1, p.2)) (enc k) = none) ∨ ∃ v d, valV kws k = some v ∧ lkD (kk.map fun p => (enc p.1, p.2)) (enc k) = some d ∧ Dq S v d
  | [], [], _, _ => .inl ⟨rfl, rfl⟩
  | [], _ :: _, h, _ => by simp at h
  | _ :: _, [], h, _ => by simp at h
  | (a, v) :: r, (b, d) :: s, h, q => by
    simp only [List.map_cons, List.cons.injEq] at h
    obtain ⟨rfl, h⟩ := h
    simp only [List.map_cons] at q
    cases q with
    | cons q1 q2 =>
      by_cases e : a = k
      · refine .inr ⟨v, d, valV_pos (p := (a, v)) e, ?_, q1⟩
        simp [lkD, List.find?_cons, he, e]
      · rw [valV_neg (p := (a, v)) e]
        have : lkD (((a, d) :: s).map fun p => (enc p.1, p.2)) (enc k) = lkD (s.map fun p => (enc p.1, p.2)) (enc k) := by simp [lkD, List.find?_cons, he, e]
        rw [this]
        exact look_rel he k h q2
theorem any_rel {enc : κ → D} (he : ∀ a b, PyData.eqv (enc a) (enc b) = decide (a = b)) (k : κ) : ∀ {kws : List (κ × V)} {kk : List (κ × D)}, kws.map (·.1) = kk.map (·.1) → (kws.any fun kv => decide (kv.1 = k)) = ((kk.map fun p => (enc p.1, p.2)).any fun p => PyData.eqv p.1 (enc k))
  | [], [], _ => rfl
  | [], _ :: _, h => by simp at h
  | _ :: _, [], h => by simp at h
  | (a, v) :: r, (b, d) :: s, h => by
    simp only [List.map_cons, List.cons.injEq] at h
    obtain ⟨rfl, h⟩ := h
    simp only [List.any_cons, List.map_cons, any_rel he k h, he]
theorem put_map {S : Hp} {enc : κ → D} (he : ∀ a b, PyData.eqv (enc a) (enc b) = decide (a = b)) (k : κ) {v : V} {d : D} (hd : Dq S v d) : ∀ {kws : List (κ × V)} {kk : List (κ × D)}, kws.map (·.1) = kk.map (·.1) → DqAll S (kws.map (·.2)) (kk.map (·.2)) →
    (kws.map fun kv => if kv.1 = k then (kv.1, v) else kv).map (·.1) = (kk.map fun kv => if kv.1 = k then (kv.1, d) else kv).map (·.1) ∧ DqAll S ((kws.map fun kv => if kv.1 = k then (kv.1, v) else kv).map (·.2)) ((kk.map fun kv => if kv.1 = k then (kv.1, d) else kv).map (·.2)) ∧
    ((kk.map fun p => (enc p.1, p.2)).map fun p => if PyData.eqv p.1 (enc k) = true then (p.1, d) else p) = (kk.map fun kv => if kv.1 = k then (kv.1, d) else kv).map fun p => (enc p.1, p.2)
  | [], [], _, _ => ⟨rfl, .nil, rfl⟩
  | [], _ :: _, h, _ => by simp at h
  | _ :: _, [], h, _ => by simp at h
  | (a, x) :: r, (b, y) :: s, h, q => by
    simp only [List.map_cons, List.cons.injEq] at h
    obtain ⟨rfl, h⟩ := h
    simp only [List.map_cons] at q
    cases q with
    | cons q1 q2 =>
      obtain ⟨i1, i2, i3⟩ := put_map he k hd h q2
      by_cases e : a = k
      · simp only [List.map_cons, e, if_true, he, decide_true]
        exact ⟨by rw [i1], .cons hd i2, by rw [i3]⟩
      · simp only [List.map_cons, e, if_false, he, decide_false, Bool.false_eq_true]
        exact ⟨by rw [i1], .cons q1 i2, by rw [i3]⟩
theorem put_rel {S : Hp} {enc : κ → D} (he : ∀ a b, PyData.eqv (enc a) (enc b) = decide (a = b)) (k : κ) {v : V} {d : D} (hd : Dq S v d) {kws : List (κ × V)} {kk : List (κ × D)} (h : kws.map (·.1) = kk.map (·.1)) (q : DqAll S (kws.map (·.2)) (kk.map (·.2))) :
    ∃ kk', putD (kk.map fun p => (enc p.1, p.2)) (enc k) d = kk'.map (fun p => (enc p.1, p.2)) ∧ KvOk S (putK kws k v) kk' := by
  unfold putD putK
  rw [any_rel he k h]
  split
  · obtain ⟨i1, i2, i3⟩ := put_map he k hd h q
    exact ⟨_, i3, i1, i2⟩
  · refine ⟨kk ++ [(k, d)], by simp, ?_, ?_⟩
    · simp [h]
    · rw [List.map_append, List.map_append]
      exact dqa_app q (.cons hd .nil)
end
theorem lk_tD (kk : List (List Key × D)) (ks : List Key) : lkD (tD kk) (keysD ks) = lkD (kk.map fun p => (keysD p.1, p.2)) (keysD ks) := by
  simp [lkD, tD, List.find?_cons, keysD]
theorem put_tD (kk : List (List Key × D)) (ks : List Key) (d : D) : putD (tD kk) (keysD ks) d = (.none, .none) :: putD (kk.map fun p => (keysD p.1, p.2)) (keysD ks) d := by
  have : PyData.eqv .none (keysD ks) = false := by simp [keysD]
  unfold putD tD
  simp only [List.any_cons, this, Bool.false_or, List.map_cons, Bool.false_eq_true, if_false]
  split <;> rfl
/-- what a dict holds, told by the rules -/
theorem dget_of {S H : Hp} {a : Addr} {o : HO} {kvs : List (D × D)} {y : V} {k : D} {r : Option D} (ha : H a = some o) (ex : Ex S H) (hd : DictAt S o kvs) (hy : Dq S y k) (hg : dGet kvs k = some r) :
    ∃ ov, DGet H a y ov ∧ ((ov = none ∧ r = none) ∨ ∃ v d, ov = some v ∧ r = some d ∧ Dq S v d) := by
  unfold dGet at hg
  split at hg
  · rename_i hf
    cases hg
    unfold fits at hf
    rcases hd with ⟨kws, kk, rfl, rfl, h1, h2⟩ | ⟨kws, kk, rfl, rfl, h1, h2⟩
    · rw [isTk_kD, if_neg Bool.false_ne_true] at hf
      obtain ⟨k', hk⟩ := Option.isSome_iff_exists.mp hf
      obtain rfl := keyOf_eq hk
      obtain rfl := dq_key hy
      refine ⟨_, DGet.k ha, ?_⟩
      rcases look_rel eqv_keyD k' h1 h2 with ⟨e1, e2⟩ | ⟨v, d, e1, e2, e3⟩
      · exact .inl ⟨e1, e2⟩
      · exact .inr ⟨v, d, e1, e2, e3⟩
    · rw [isTk_tD, if_pos rfl] at hf
      obtain ⟨k', hk⟩ := Option.isSome_iff_exists.mp hf
      cases keysOf_eq hk
  · cases hg
/-- .. and takes -/
theorem dput_of {S H : Hp} {a : Addr} {o : HO} {kvs kvs' : List (D × D)} {y v : V} {k d : D} (ha : H a = some o) (ex : Ex S H) (hd : DictAt S o kvs) (hy : Dq S y k) (hv : Dq S v d) (hg : dPut kvs k d = some kvs') :
    ∃ o', DPut H a y v (upd H a o') ∧ DictAt S o' kvs' := by
  unfold dPut at hg
  split at hg
  · rename_i hf
    obtain ⟨hf, hz⟩ := hf
    cases hg
    unfold fits at hf
    rcases hd with ⟨kws, kk, rfl, rfl, h1, h2⟩ | ⟨kws, kk, rfl, rfl, h1, h2⟩
    · rw [isTk_kD, if_neg Bool.false_ne_true] at hf
      obtain ⟨k', hk⟩ := Option.isSome_iff_exists.mp hf
      obtain rfl := keyOf_eq hk
      obtain rfl := dq_key hy
      obtain ⟨kk', e1, e2⟩ := put_rel eqv_keyD k' hv h1 h2
      have hl : kws.length = kk.length := by simpa using congrArg List.length h1
      have hz' : kk.length ≤ 100000 := by simpa [kD] using hz
      exact ⟨_, DPut.k ha (Nat.lt_of_le_of_lt (hl ▸ hz') (by decide)), .inl ⟨_, kk', rfl, e1, e2⟩⟩
    · rw [isTk_tD, if_pos rfl] at hf
      obtain ⟨k', hk⟩ := Option.isSome_iff_exists.mp hf
      cases keysOf_eq hk
  · cases hg
theorem dq_dict {H : Hp} {v : V} {kvs : List (D × D)} {k : D} {r : Option D} (h : Dq H v (.dict kvs)) (hg : dGet kvs k = some r) : ∃ a o, v = .ref a ∧ H a = some o ∧ DictAt H o kvs := by
  cases h with
  | dcK e a b => exact ⟨_, _, rfl, e, .inl ⟨_, _, rfl, rfl, a, b⟩⟩
  | dcT e a b => exact ⟨_, _, rfl, e, .inr ⟨_, _, rfl, rfl, a, b⟩⟩
  | wt e a => simp [dGet, fits, wK, keysOf] at hg
theorem dict_dq {S : Hp} {a : Addr} {o : HO} {kvs : List (D × D)} (e : S a = some o) (h : DictAt S o kvs) : Dq S (.ref a) (.dict kvs) := by
  rcases h with ⟨kws, kk, rfl, rfl, h1, h2⟩ | ⟨kws, kk, rfl, rfl, h1, h2⟩
  · exact .dcK e h1 h2
  · exact .dcT e h1 h2
/-! ### in, not in -/
theorem op_dIn {X : Cx} (hu : X.A.units + 1 < cLine) : OpR X (compareOp .In) fun y x H Q => ∃ a o, x = .ref a ∧ DGet H a y o ∧ Q (.bl o.isSome) H := by
  intro pins s σ H y x v u Q I ry rx h
  obtain ⟨a, o, rfl, g, q⟩ := h
  obtain rfl : u = Value.ref a := rx
  exact d_in hu I g ry fun s3 I3 => ⟨.bl o.isSome, H, I3, rfl, q⟩
theorem op_dNotIn {X : Cx} (hu : X.A.units + 1 < cLine) : OpR X (compareOp .NotIn) fun y x H Q => ∃ a o, x = .ref a ∧ DGet H a y o ∧ Q (.bl (!o.isSome)) H := by
  intro pins s σ H y x v u Q I ry rx h
  obtain ⟨a, o, rfl, g, q⟩ := h
  obtain rfl : u = Value.ref a := rx
  exact d_notIn hu I g ry fun s3 I3 => ⟨.bl (!o.isSome), H, I3, rfl, q⟩
def cInE : D → D → Option Bool
  | k, .dict kvs => (dGet kvs k).map (·.isSome)
  | d, e => cIn d e
def cNotInE (d e : D) : Option Bool := (cInE d e).map fun k => !k
theorem hu1 {n : Nat} {A : Around} (hr : Room n A) : A.units + 1 < cLine := by have := hr.un; omega
section
variable [TabSet] {X : Cx} {F : Fr} {e a b c tg : Expr} {es : List Expr} {pos p : Pos} {f g h : M} {tf : MT} {fa : MA} {x : Str} {k : Nat} {pf pg : PF}
theorem ck_inE {n : Nat} (hr : Room n X.A) : CmpOk X .In cInE := fun d e k hk => by
  cases e with
  | dict kvs =>
    simp only [cInE, Option.map_eq_some_iff] at hk
    obtain ⟨r, hg, rfl⟩ := hk
    refine ⟨_, op_dIn (hu1 hr), fun S H y v Q ex h1 h2 q => ?_⟩
    obtain ⟨a, o, rfl, e1, e2⟩ := dq_dict h2 hg
    obtain ⟨ov, h3, h4⟩ := dget_of (ex _ _ e1) ex e2 h1 hg
    refine ⟨a, ov, rfl, h3, ?_⟩
    rcases h4 with ⟨rfl, rfl⟩ | ⟨_, _, rfl, rfl, _⟩ <;> exact q
  | _ => exact ck_in hr d _ k hk
theorem ck_notinE {n : Nat} (hr : Room n X.A) : CmpOk X .NotIn cNotInE := fun d e k hk => by
  cases e with
  | dict kvs =>
    simp only [cNotInE, cInE, Option.map_map, Option.map_eq_some_iff] at hk
    obtain ⟨r, hg, rfl⟩ := hk
    refine ⟨_, op_dNotIn (hu1 hr), fun S H y v Q ex h1 h2 q => ?_⟩
    obtain ⟨a, o, rfl, e1, e2⟩ := dq_dict h2 hg
    obtain ⟨ov, h3, h4⟩ := dget_of (ex _ _ e1) ex e2 h1 hg
    refine ⟨a, ov, rfl, h3, ?_⟩
    rcases h4 with ⟨rfl, rfl⟩ | ⟨_, _, rfl, rfl, _⟩ <;> exact q
  | _ => exact ck_notin hr d _ k hk
/-! ### an own thing behind a comparison -/
omit [TabSet] in
/-- .. seen as a value -/
def obD : Ob → D
  | .lst xs => .list xs
  | .dct kvs => .dict kvs
theorem ob_dq {S : Hp} {a : Addr} {o : HO} {ob : Ob} (e : S a = some o) (h : ObOk S o ob) : Dq S (.ref a) (obD ob) := by
  cases ob with
  | lst xs => obtain ⟨vs, rfl, q⟩ := h; exact .lst e q
  | dct kvs => exact dict_dq e h
omit [TabSet] in
def fCmpR (i : Nat) (o : D → D → Option Bool) (g : M) : M := fun δ => match g δ with
  | some (d, δ1) => match δ1[i]? with
    | some (.ow ob) => match o d (obD ob) with
      | some k => some (.bool k, δ1)
      | none => none
    | _ => none
  | none => none
theorem cmpR_run {i : Nat} {op : CmpOp} {o : D → D → Option Bool} {S : Hp} {δ δ' : DE} {d : D} {σ : L2.St} {H : Hp} {Q : VK} (ho : CmpOk X op o) (R : RSt X.K F S H σ δ) (hf : fCmpR i o g δ = some (d, δ'))
    (q : ∀ v S' H', Stp S H S' H' σ δ δ' → RSt X.K F S' H' σ δ' → Dq S' v d → Q v H') : ∃ r : R2, OpR X (compareOp op) r ∧ SE X.K F g σ H fun y H2 => ∃ v, σ[i]? = some (some v) ∧ r y v H2 Q := by
  unfold fCmpR at hf
  split at hf
  · rename_i d1 δ1 h1
    split at hf
    · rename_i ob h2
      split at hf
      · rename_i k h3
        cases hf
        obtain ⟨r, k1, k2⟩ := ho _ _ k h3
        refine ⟨r, k1, S, δ, d1, _, R, h1, fun v S1 H1 s1 R1 dv => ?_⟩
        obtain ⟨a, oo, w1, w2, w3, w4⟩ := ob_addr R1 h2
        refine ⟨.ref a, w1, ?_⟩
        obtain ⟨x1, x2⟩ := ex_own R1.sub w2 w3
        exact k2 _ H1 v (.ref a) _ x2 (dq_ext x1 dv) (ob_dq upd_same (ob_ext x1 w4)) (q _ S1 H1 s1 R1 (.bl k))
      · cases hf
    · cases hf
  · cases hf
theorem e_cmpR {i : Nat} {px : Pos} {op : CmpOp} {o : D → D → Option Bool} (ho : CmpOk X op o) (hb : PE X b (SE X.K F g)) (hN : X.N[i]? = some x := by rfl) (hv : Vis X.env.scope x := by first | exact Or.inl rfl | exact Or.inr (Or.inl rfl) | exact Or.inr (Or.inr rfl)) (hd : (x == ("__debug__" : Str)) = false := by decide)
    (hcd : (x == ("__classdict__" : Str)) = false := by decide) (hm : behindInMarks op (.Name x px) = false := by first | exact nomark _ | rfl) : PE X (.Compare b [op] [.Name x px] pos) (SE X.K F (fCmpR i o g)) :=
  pe_of fun S δ d δ' σ H Q R hf q => by
    obtain ⟨r, h1, h3⟩ := cmpR_run ho R hf q
    exact ⟨_, pe_cmpR h1 hb (pe_var hN hv hd hcd) hm, h3⟩
omit [TabSet] in
def fCmpRT (i : Nat) (o : D → D → Option Bool) (g : M) : MT := fun δ => match fCmpR i o g δ with
  | some (.bool b, δ') => some (b, δ')
  | _ => none
theorem t_cmpR {i : Nat} {px : Pos} {op : CmpOp} {o : D → D → Option Bool} (ho : CmpOk X op o) (hb : PE X b (SE X.K F g)) (hN : X.N[i]? = some x := by rfl) (hv : Vis X.env.scope x := by first | exact Or.inl rfl | exact Or.inr (Or.inl rfl) | exact Or.inr (Or.inr rfl)) (hd : (x == ("__debug__" : Str)) = false := by decide)
    (hcd : (x == ("__classdict__" : Str)) = false := by decide) (hm : behindInMarks op (.Name x px) = false := by first | exact nomark _ | rfl) : PT X (.Compare b [op] [.Name x px] pos) (ST X.K F (fCmpRT i o g)) :=
  t_of_e (ff := fCmpR i o g) fun σ H Q hw => by
    obtain ⟨S, δ, d, δ', R, hf, q⟩ := hw
    obtain ⟨r, h1, h3⟩ := cmpR_run ho R hf q
    exact ⟨_, pt_cmpR h1 hb (pe_var hN hv hd hcd) hm, h3⟩
end
end Sd

/-! Dicts of one's own; places of what is one's own. -/
namespace Sd
open PySem PySem.Spec PyProof.Rows L2
open Evl (Ex)
variable [TabSet]
omit [TabSet] in
/-- a place of a list, a tuple, a text, a dict -/
def ixE : D → D → Option D
  | .dict kvs, k => (dGet kvs k).bind id
  | d, k => ixD d k
abbrev MO' := DE → Option (Ob × DE)
/-- a new thing that nobody else holds -/
def SFO (K : PySem.W.Frag) (F : Fr) (f : MO') : TE := fun σ H Q => ∃ S δ ob δ', RSt K F S H σ δ ∧ f δ = some (ob, δ') ∧
  ∀ a o S' H', Stp S H S' H' σ δ δ' → RSt K F S' H' σ δ' → H a = none → S' a = none → H' a = some o → ObOk S' o ob → Q (.ref a) H'
section
variable {X : Cx} {F : Fr} {e a b c tg : Expr} {es : List Expr} {pos p : Pos} {f g h : M} {tf : MT} {fa : MA} {x : Str} {k : Nat} {pf pg : PF} {W : WX} {fo : MO'}
theorem pfo_of (h : ∀ S δ ob δ' σ H Q, RSt X.K F S H σ δ → fo δ = some (ob, δ') → (∀ a o S' H', Stp S H S' H' σ δ δ' → RSt X.K F S' H' σ δ' → H a = none → S' a = none → H' a = some o → ObOk S' o ob → Q (.ref a) H') → ∃ t, PE X e t ∧ t σ H Q) : PE X e (SFO X.K F fo) :=
  ⟨fun pins s σ H Q I hw => by
    obtain ⟨S, δ, d, δ', R, hf, q⟩ := hw
    obtain ⟨t, ht, hq⟩ := h S δ d δ' σ H Q R hf q
    exact ht.run pins s σ H Q I hq⟩
/-! ### places -/
theorem ixE_of {x y : D} (h : ∀ kvs, x ≠ .dict kvs) : ixE x y = ixD x y := by
  cases x <;> first | rfl | exact absurd rfl (h _)
theorem e_ixE {n : Nat} (hr : Room n X.A) (ha : PE X a (SE X.K F f)) (hb : PE X b (SE X.K F g)) (hs : PlainIx b := by exact fun _ _ => rfl) : PE X (.Subscript a b pos) (SE X.K F (fOp ixE f g)) := by
  refine pe_of fun S δ d δ' σ H Q R hf q => ?_
  obtain ⟨x, δ1, y, h1, h2, h3⟩ := fOp_of hf
  by_cases hx : ∃ kvs, x = .dict kvs
  · obtain ⟨kvs, rfl⟩ := hx
    simp only [ixE, Option.bind_eq_some_iff, id] at h3
    obtain ⟨r, hg, rfl⟩ := h3
    refine ⟨_, pe_dget (hu1 hr) ha hb hs, S, δ, _, δ1, R, h1, fun v S1 H1 s1 R1 d1 => ⟨S1, δ1, y, _, R1, h2, fun w S2 H2 s2 R2 d2 => ?_⟩⟩
    obtain ⟨a, o, rfl, e1, e2⟩ := dq_dict (dq_ext s2.s d1) hg
    obtain ⟨ov, h3, h4⟩ := dget_of (R2.sub _ _ e1) R2.sub e2 d2 hg
    rcases h4 with ⟨_, h4⟩ | ⟨u, z, rfl, h4, dz⟩
    · cases h4
    · cases h4
      exact ⟨a, u, rfl, h3, q u S2 H2 (s1.trans s2) R2 dz⟩
  · rw [ixE_of fun kvs e => hx ⟨kvs, e⟩] at h3
    exact ⟨_, e_ix (F := F) ha hb hs, S, δ, d, δ', R, by unfold fOp; rw [h1]; simp only [h2, h3], q⟩
omit [TabSet] in
/-- a place of a thing of one's own -/
def fIxO (i : Nat) (g : M) : M := fun δ => if isOw δ i = true then match g δ with
    | some (y, δ1) => match δ1[i]? with
      | some (.ow ob) => (ixE (obD ob) y).map fun z => (z, δ1)
      | _ => none
    | none => none
  else none
theorem e_ixO {n : Nat} (hr : Room n X.A) {i : Nat} {px : Pos} (hb : PE X b (SE X.K F g)) (hN : X.N[i]? = some x := by rfl) (hv : Vis X.env.scope x := by first | exact Or.inl rfl | exact Or.inr (Or.inl rfl) | exact Or.inr (Or.inr rfl)) (hd : (x == ("__debug__" : Str)) = false := by decide)
    (hcd : (x == ("__classdict__" : Str)) = false := by decide) (hs : PlainIx b := by exact fun _ _ => rfl) : PE X (.Subscript (.Name x px) b pos) (SE X.K F (fIxO i g)) := by
  refine pe_of fun S δ d δ' σ H Q R hf q => ?_
  unfold fIxO at hf
  split at hf
  · rename_i ho
    obtain ⟨ob0, hz⟩ := isOw_of ho
    obtain ⟨a0, _, ea0, _⟩ := ob_addr R hz
    split at hf
    · rename_i y δ1 h1
      split at hf
      · rename_i ob h2
        cases h3 : ixE (obD ob) y with
        | none => rw [h3] at hf; cases hf
        | some z =>
          rw [h3] at hf
          cases hf
          cases ob with
          | dct kvs =>
            simp only [obD, ixE, Option.bind_eq_some_iff, id] at h3
            obtain ⟨r, hg, rfl⟩ := h3
            refine ⟨_, pe_dget (hu1 hr) (pe_var hN hv hd hcd) hb hs, .ref a0, ea0, S, δ, y, _, R, h1, fun w S2 H2 s2 R2 d2 => ?_⟩
            obtain ⟨a, o, w1, w2, w3, w4⟩ := ob_addr R2 h2
            rw [ea0] at w1
            cases w1
            obtain ⟨ov, h3, h4⟩ := dget_of w3 R2.sub w4 d2 hg
            rcases h4 with ⟨_, h4⟩ | ⟨u, z, rfl, h4, dz⟩
            · cases h4
            · cases h4
              exact ⟨a0, u, rfl, h3, q u S2 H2 s2 R2 dz⟩
          | lst xs =>
            cases y <;> simp only [obD, ixE, ixD] at h3 <;> first | cases h3 | skip
            refine ⟨_, pe_ix ix_list (pe_var hN hv hd hcd) hb hs, .ref a0, ea0, S, δ, _, _, R, h1, fun w S2 H2 s2 R2 d2 => ?_⟩
            obtain ⟨a, vs, w1, w2, w3, w4⟩ := ow_addr R2 h2
            rw [ea0] at w1
            cases w1
            obtain ⟨v, hv, dv⟩ := dqa_atI w4 h3
            exact ⟨a0, vs, _, v, rfl, dq_int d2, SqL.of w3, hv, q v S2 H2 s2 R2 dv⟩
      · cases hf
    · cases hf
  · cases hf
/-! ### x[k] = v, x a dict of one's own -/
omit [TabSet] in
def sPutO (i : Nat) (g f : M) : MS := fun δ => if isOw δ i = true then match f δ with
    | some (v, δ1) => match g δ1 with
      | some (k, δ2) => match δ2[i]? with
        | some (.ow (.dct kvs)) => match dPut kvs k v with
          | some kvs' => some (.nx (δ2.set i (.ow (.dct kvs'))))
          | none => none
        | _ => none
      | none => none
    | none => none
  else none
theorem s_putO {n : Nat} (hr : Room n X.A) {i : Nat} {px pos' : Pos} (hb : PE X b (SE X.K F g)) (ha : PE X a (SE X.K F f)) (hN : X.N[i]? = some x := by rfl) (hv : Vis X.env.scope x := by first | exact Or.inl rfl | exact Or.inr (Or.inl rfl) | exact Or.inr (Or.inr rfl)) (hd : (x == ("__debug__" : Str)) = false := by decide)
    (hcd : (x == ("__classdict__" : Str)) = false := by decide) (hs : swapsWith a (some (.Subscript (.Name x px) b pos')) pos.line X.env = pure false := by rfl) : PS X (.Assign [.Subscript (.Name x px) b pos'] a pos) (SS X.K X.mg F W (sPutO i g f)) :=
  ps_of (ps_dput (hu1 hr) (pe_var hN hv hd hcd) hb ha hs) fun Z σ H hw => by
    obtain ⟨S, δ, o, R, hf, q⟩ := hw
    unfold sPutO at hf
    split at hf
    · rename_i ho
      obtain ⟨ob0, hz⟩ := isOw_of ho
      obtain ⟨a0, _, ea0, _⟩ := ob_addr R hz
      split at hf
      · rename_i v δ1 h1
        split at hf
        · rename_i k δ2 h2
          split at hf
          · rename_i kvs h3
            split at hf
            · rename_i kvs' h4
              cases hf
              refine ⟨S, δ, v, δ1, R, h1, fun w S1 H1 s1 R1 d1 => ⟨.ref a0, ea0, S1, δ1, k, δ2, R1, h2, fun y S2 H2 s2 R2 d2 => ?_⟩⟩
              obtain ⟨a, oo, w1, w2, w3, w4⟩ := ob_addr R2 h3
              rw [ea0] at w1
              cases w1
              obtain ⟨o', h5, h6⟩ := dput_of w3 R2.sub w4 d2 (dq_ext s2.s d1) h4
              refine ⟨a0, _, rfl, h5, ?_⟩
              exact q σ S2 _ (s1.s.trans s2.s) (R2.mutO (ys := .dct kvs') h3 ea0 h6)
            · cases hf
          · cases hf
        · cases hf
      · cases hf
    · cases hf
/-! ### new dicts -/
omit [TabSet] in
/-- {}, to be of the kind that is wanted -/
def oNew (kind : DE → Bool) : MO' := fun δ => some (.dct (if kind δ = true then tD [] else []), δ)
theorem o_new {kind : DE → Bool} : PE X (.Dict [] [] pos) (SFO X.K F (oNew kind)) := by
  refine pfo_of fun S δ ob δ' σ H Q R hf q => ?_
  unfold oNew at hf
  cases hf
  cases hk : kind δ with
  | true =>
    refine ⟨_, pe_dnewT, fun p hp => ?_⟩
    obtain ⟨R2, s2, n2⟩ := lay_fresh (o := .dT []) R hp
    exact q p _ S _ s2 R2 hp n2 upd_same (.inr ⟨[], [], rfl, by rw [hk]; rfl, rfl, .nil⟩)
  | false =>
    refine ⟨_, pe_dnewK, fun p hp => ?_⟩
    obtain ⟨R2, s2, n2⟩ := lay_fresh (o := .dK []) R hp
    exact q p _ S _ s2 R2 hp n2 upd_same (.inl ⟨[], [], rfl, by rw [hk]; rfl, rfl, .nil⟩)
omit [TabSet] in
/-- name = a new thing, kept as one's own -/
def sSetB (i : Nat) (fo : MO') : MS := fun δ => match fo δ with
  | some (ob, δ1) => if free0 i δ1 = true then some (.nx (δ1.set i (.ow ob))) else none
  | none => none
theorem s_setB {i : Nat} {pos' : Pos} (hN : X.N.Nodup) (he : PE X e (SFO X.K F fo)) (hi : X.N[i]? = some x := by rfl) (hx : Loc X.env.scope x := by first | exact Or.inl rfl | exact Or.inr rfl) (hs : swapsWith e (some (.Name x pos')) pos.line X.env = pure false := by rfl)
    (hf : X.fn x = true ∨ X.env.scope.names.lookup x = some .local := by first | exact .inl rfl | exact .inr rfl) : PS X (.Assign [.Name x pos'] e pos) (SS X.K X.mg F W (sSetB i fo)) := ps_of (ps_set hN hi hx he hs hf) fun Z σ H hw => by
  obtain ⟨S, δ, o, R, hf, q⟩ := hw
  unfold sSetB at hf
  split at hf
  · rename_i d δ1 h1
    split at hf
    · rename_i h0
      cases hf
      refine ⟨S, δ, d, δ1, R, h1, fun a o S1 H1 s1 R1 n0 n1 e1 d1 => ?_⟩
      obtain ⟨z1, z2, z3⟩ := own_new R s1 n0
      exact q _ S1 H1 s1.s (R1.set_ow n1 (.inl z1) e1 d1 z3 i (free0_of h0))
    · cases hf
  · cases hf
/-! ### x.get(k), x.get(k, d) -/
theorem isD_of {H S : Hp} {a : Addr} {o : HO} {kvs : List (D × D)} (e : H a = some o) (h : DictAt S o kvs) : IsD H a := by
  rcases h with ⟨kws, kk, rfl, _⟩ | ⟨kws, kk, rfl, _⟩
  · exact .inl ⟨_, .inl e⟩
  · exact .inr ⟨_, .inl e⟩
omit [TabSet] in
def fGet1 (f g : M) : M := fun δ => match f δ with
  | some (.dict kvs, δ1) => match g δ1 with
    | some (k, δ2) => (dGet kvs k).map fun r => (r.getD .none, δ2)
    | none => none
  | _ => none
theorem e_get1 {n : Nat} (hr : Room n X.A) {apos : Pos} (ha : PE X a (SE X.K F f)) (hb : PE X b (SE X.K F g)) (m : M1 X a "get" apos b pos := by exact ⟨rfl, rfl, rfl, rfl⟩) : PE X (.Call (.Attribute a "get" apos) [b] [] pos) (SE X.K F (fGet1 f g)) := by
  refine pe_of fun S δ d δ' σ H Q R hf q => ⟨_, pe_dget1 (hu1 hr) ha hb m, ?_⟩
  unfold fGet1 at hf
  split at hf
  · rename_i kvs δ1 h1
    split at hf
    · rename_i k δ2 h2
      cases hg : dGet kvs k with
      | none => rw [hg] at hf; cases hf
      | some r =>
        rw [hg] at hf
        cases hf
        refine ⟨S, δ, _, δ1, R, h1, fun v S1 H1 s1 R1 d1 => ?_⟩
        obtain ⟨a0, o, rfl, e1, e2⟩ := dq_dict d1 hg
        refine ⟨a0, rfl, isD_of (R1.sub _ _ e1) e2, S1, δ1, k, _, R1, h2, fun w S2 H2 s2 R2 d2 => ?_⟩
        obtain ⟨ov, h3, h4⟩ := dget_of (R2.sub _ _ (s2.s _ _ e1)) R2.sub (dict_ext s2.s e2) d2 hg
        refine ⟨ov, h3, ?_⟩
        rcases h4 with ⟨rfl, rfl⟩ | ⟨u, z, rfl, rfl, dz⟩
        · exact q _ S2 H2 (s1.trans s2) R2 .non
        · exact q _ S2 H2 (s1.trans s2) R2 dz
    · cases hf
  · cases hf
omit [TabSet] in
def fGet2 (f g h : M) : M := fun δ => match f δ with
  | some (.dict kvs, δ1) => match g δ1 with
    | some (k, δ2) => match h δ2 with
      | some (z, δ3) => (dGet kvs k).map fun r => (r.getD z, δ3)
      | none => none
    | none => none
  | _ => none
theorem e_get2 {n : Nat} (hr : Room n X.A) {apos : Pos} (ha : PE X a (SE X.K F f)) (hb : PE X b (SE X.K F g)) (hc : PE X c (SE X.K F h)) (m : M2 X a "get" apos b c pos := by exact ⟨rfl, rfl, rfl, rfl⟩) : PE X (.Call (.Attribute a "get" apos) [b, c] [] pos) (SE X.K F (fGet2 f g h)) := by
  refine pe_of fun S δ d δ' σ H Q R hf q => ⟨_, pe_dget2 (hu1 hr) ha hb hc m, ?_⟩
  unfold fGet2 at hf
  split at hf
  · rename_i kvs δ1 h1
    split at hf
    · rename_i k δ2 h2
      split at hf
      · rename_i z δ3 h3
        cases hg : dGet kvs k with
        | none => rw [hg] at hf; cases hf
        | some r =>
          rw [hg] at hf
          cases hf
          refine ⟨S, δ, _, δ1, R, h1, fun v S1 H1 s1 R1 d1 => ?_⟩
          obtain ⟨a0, o, rfl, e1, e2⟩ := dq_dict d1 hg
          refine ⟨a0, rfl, isD_of (R1.sub _ _ e1) e2, S1, δ1, k, _, R1, h2, fun w S2 H2 s2 R2 d2 => ⟨S2, δ2, z, _, R2, h3, fun u S3 H3 s3 R3 d3 => ?_⟩⟩
          obtain ⟨ov, h4, h5⟩ := dget_of (R3.sub _ _ (s3.s _ _ (s2.s _ _ e1))) R3.sub (dict_ext s3.s (dict_ext s2.s e2)) (dq_ext s3.s d2) hg
          refine ⟨ov, h4, ?_⟩
          rcases h5 with ⟨rfl, rfl⟩ | ⟨u', z', rfl, rfl, dz⟩
          · exact q _ S3 H3 ((s1.trans s2).trans s3) R3 d3
          · exact q _ S3 H3 ((s1.trans s2).trans s3) R3 dz
      · cases hf
    · cases hf
  · cases hf
omit [TabSet] in
/-- .. of a dict of one's own -/
def fGet1O (i : Nat) (g : M) : M := fun δ => match δ[i]? with
  | some (.ow (.dct kvs0)) => match g δ with
    | some (k, δ2) => match δ2[i]? with
      | some (.ow (.dct kvs)) => (dGet kvs k).map fun r => (r.getD .none, δ2)
      | _ => none
    | none => none
  | _ => none
theorem e_get1O {n : Nat} (hr : Room n X.A) {i : Nat} {apos px : Pos} (hb : PE X b (SE X.K F g)) (hN : X.N[i]? = some x := by rfl) (hv : Vis X.env.scope x := by first | exact Or.inl rfl | exact Or.inr (Or.inl rfl) | exact Or.inr (Or.inr rfl)) (hd : (x == ("__debug__" : Str)) = false := by decide)
    (hcd : (x == ("__classdict__" : Str)) = false := by decide) (m : M1 X (.Name x px) "get" apos b pos := by exact ⟨rfl, rfl, rfl, rfl⟩) : PE X (.Call (.Attribute (.Name x px) "get" apos) [b] [] pos) (SE X.K F (fGet1O i g)) := by
  refine pe_of fun S δ d δ' σ H Q R hf q => ⟨_, pe_dget1 (hu1 hr) (pe_var hN hv hd hcd) hb m, ?_⟩
  unfold fGet1O at hf
  split at hf
  · rename_i kvs0 h0
    obtain ⟨a0, o0, ea0, _, e0, q0⟩ := ob_addr R h0
    split at hf
    · rename_i k δ2 h2
      split at hf
      · rename_i kvs h3
        cases hg : dGet kvs k with
        | none => rw [hg] at hf; cases hf
        | some r =>
          rw [hg] at hf
          cases hf
          refine ⟨.ref a0, ea0, a0, rfl, isD_of e0 q0, S, δ, k, _, R, h2, fun w S2 H2 s2 R2 d2 => ?_⟩
          obtain ⟨a, oo, w1, w2, w3, w4⟩ := ob_addr R2 h3
          rw [ea0] at w1
          cases w1
          obtain ⟨ov, h3, h4⟩ := dget_of w3 R2.sub w4 d2 hg
          refine ⟨ov, h3, ?_⟩
          rcases h4 with ⟨rfl, rfl⟩ | ⟨u, z, rfl, rfl, dz⟩
          · exact q _ S2 H2 s2 R2 .non
          · exact q _ S2 H2 s2 R2 dz
      · cases hf
    · cases hf
  · cases hf
omit [TabSet] in
def fGet2O (i : Nat) (g h : M) : M := fun δ => match δ[i]? with
  | some (.ow (.dct kvs0)) => match g δ with
    | some (k, δ2) => match h δ2 with
      | some (z, δ3) => match δ3[i]? with
        | some (.ow (.dct kvs)) => (dGet kvs k).map fun r => (r.getD z, δ3)
        | _ => none
      | none => none
    | none => none
  | _ => none
theorem e_get2O {n : Nat} (hr : Room n X.A) {i : Nat} {apos px : Pos} (hb : PE X b (SE X.K F g)) (hc : PE X c (SE X.K F h)) (hN : X.N[i]? = some x := by rfl) (hv : Vis X.env.scope x := by first | exact Or.inl rfl | exact Or.inr (Or.inl rfl) | exact Or.inr (Or.inr rfl)) (hd : (x == ("__debug__" : Str)) = false := by decide)
    (hcd : (x == ("__classdict__" : Str)) = false := by decide) (m : M2 X (.Name x px) "get" apos b c pos := by exact ⟨rfl, rfl, rfl, rfl⟩) : PE X (.Call (.Attribute (.Name x px) "get" apos) [b, c] [] pos) (SE X.K F (fGet2O i g h)) := by
  refine pe_of fun S δ d δ' σ H Q R hf q => ⟨_, pe_dget2 (hu1 hr) (pe_var hN hv hd hcd) hb hc m, ?_⟩
  unfold fGet2O at hf
  split at hf
  · rename_i kvs0 h0
    obtain ⟨a0, o0, ea0, _, e0, q0⟩ := ob_addr R h0
    split at hf
    · rename_i k δ2 h2
      split at hf
      · rename_i z δ3 h3
        split at hf
        · rename_i kvs h4
          cases hg : dGet kvs k with
          | none => rw [hg] at hf; cases hf
          | some r =>
            rw [hg] at hf
            cases hf
            refine ⟨.ref a0, ea0, a0, rfl, isD_of e0 q0, S, δ, k, _, R, h2, fun w S2 H2 s2 R2 d2 => ⟨S2, δ2, z, _, R2, h3, fun u S3 H3 s3 R3 d3 => ?_⟩⟩
            obtain ⟨a, oo, w1, w2, w3, w4⟩ := ob_addr R3 h4
            rw [ea0] at w1
            cases w1
            obtain ⟨ov, h5, h6⟩ := dget_of w3 R3.sub w4 (dq_ext s3.s d2) hg
            refine ⟨ov, h5, ?_⟩
            rcases h6 with ⟨rfl, rfl⟩ | ⟨u', z', rfl, rfl, dz⟩
            · exact q _ S3 H3 (s2.trans s3) R3 d3
            · exact q _ S3 H3 (s2.trans s3) R3 dz
        · cases hf
      · cases hf
    · cases hf
  · cases hf
/-! ### what is one's own is given to all -/
theorem RSt.giveO {K : PySem.W.Frag} {S H : Hp} {σ : L2.St} {δ : DE} (R : RSt K F S H σ δ) {i : Nat} {ob : Ob} (hd : δ[i]? = some (.ow ob)) (hi0 : i ≠ 0) : ∃ a S', σ[i]? = some (some (.ref a)) ∧ Ex S S' ∧ Dq S' (.ref a) (obD ob) ∧
    RSt K F S' H σ (δ.set i (.sh (obD ob))) := by
  have hl : i < σ.length := by rw [R.len]; exact (List.getElem?_eq_some_iff.mp hd).1
  obtain ⟨x, hx⟩ : ∃ x, σ[i]? = some x := ⟨_, List.getElem?_eq_getElem hl⟩
  obtain ⟨a, o, rfl, e1, e2, e3, e4⟩ := R.slot i _ _ hx hd
  have hex : Ex S (upd S a o) := Ex.new e1
  have hq : Dq (upd S a o) (.ref a) (obD ob) := ob_dq upd_same (ob_ext hex e4)
  refine ⟨a, upd S a o, hx, hex, hq, ?_⟩
  have hio' : F.io ≠ some a := fun e => by
    obtain ⟨p1, us, p2⟩ := R.pin a e
    exact hi0 (R.sep i 0 a _ us hd p2 hx p1)
  have h0 : F.H0 a = none := e2.resolve_right hio'
  refine ⟨fun b u h => ?_, R.base, R.dom0, fun t => ⟨(R.tb0 t).1, nt_upd (R.tb0 t).2 (ob_nt e4)⟩, R.s0.trans hex, fun b u h => ?_, R.iop, by rw [List.length_set]; exact R.len, fun j y s g1 g2 => ?_, fun j k b zs zs' g1 g2 g3 g4 => ?_, fun b h => ?_⟩
  · by_cases hb : b = a
    · subst hb; rw [upd_same] at h; cases h; exact e3
    · rw [upd_ne hb] at h; exact R.sub b u h
  · have hb : b ≠ a := fun z => by rw [z, h0] at h; cases h
    rw [upd_ne hb]; exact R.out b u h
  · by_cases hj : i = j
    · subst hj
      rw [hx] at g1; cases g1
      rw [List.getElem?_set_self (by rw [← R.len]; exact hl)] at g2; cases g2
      exact ⟨_, rfl, hq⟩
    · rw [List.getElem?_set_ne hj] at g2
      have q := R.slot j y s g1 g2
      cases s with
      | no => trivial
      | sh d =>
        obtain ⟨v, e, p⟩ := q
        exact ⟨v, e, dq_ext hex p⟩
      | scr ns =>
        obtain ⟨b, e, q⟩ := q
        exact ⟨b, e, Evl.ex_l hex q⟩
      | ow zs =>
        obtain ⟨b, us, f, f1, f2, f3, f4⟩ := q
        have hb : b ≠ a := fun z => by
          subst z
          rw [f] at g1
          exact hj (R.sep i j b _ zs hd g2 hx g1)
        exact ⟨b, us, f, by rw [upd_ne hb]; exact f1, f2, f3, ob_ext hex f4⟩
  · have nj : ∀ (m : Nat) us, (δ.set i (.sh (obD ob)))[m]? = some (.ow us) → δ[m]? = some (.ow us) := fun m us g => by
      by_cases hm : i = m
      · subst hm
        rw [List.getElem?_set_self (by rw [← R.len]; exact hl)] at g; cases g
      · rwa [List.getElem?_set_ne hm] at g
    exact R.sep j k b _ _ (nj j _ g1) (nj k _ g2) g3 g4
  · obtain ⟨p1, us, p2⟩ := R.pin b h
    exact ⟨p1, us, by rw [List.getElem?_set_ne hi0]; exact p2⟩
omit [TabSet] in
/-- return of what was one's own -/
def sRetB (i : Nat) : MS := fun δ => match δ[i]? with
  | some (.ow ob) => if i ≠ 0 then some (.rt (obD ob) (δ.set i (.sh (obD ob)))) else none
  | _ => none
theorem s_retB {i : Nat} {py : Pos} (hN : X.N[i]? = some x := by rfl) (hv : Vis X.env.scope x := by first | exact Or.inl rfl | exact Or.inr (Or.inl rfl) | exact Or.inr (Or.inr rfl)) (hd : (x == ("__debug__" : Str)) = false := by decide)
    (hcd : (x == ("__classdict__" : Str)) = false := by decide) : PS X (.Return (some (.Name x py)) pos) (SS X.K X.mg F W (sRetB i)) := ps_of (ps_ret (pe_var hN hv hd hcd)) fun Z σ H hw => by
  obtain ⟨S, δ, o, R, hf, q⟩ := hw
  unfold sRetB at hf
  split at hf
  · rename_i ob h1
    split at hf
    · rename_i h0
      cases hf
      obtain ⟨a, S1, w1, w3, w5, R1⟩ := R.giveO h1 h0
      exact ⟨.ref a, w1, q _ σ _ H w3 R1 w5⟩
    · cases hf
  · cases hf
end
end Sd

/-! extend, index, displays of one pair, ranges downward, max and min of two. -/
namespace Sd
open PySem PySem.Spec PyProof.Rows L2
open Evl (Ex)
section
variable {X : Cx} {k v : Expr} {pos : Pos} {tk tv : TE}
/-- {k: v}, k a tuple; the new dict stands empty while both are made -/
def tDisp1T (tk tv : TE) : TE := fun σ H Q => ∀ p, H p = none → tk σ (upd H p (.dT [])) fun x H1 => tv σ H1 fun y H2 => H2 p = some (.dT []) ∧ ∃ b ks, x = .ref b ∧ H2 b = some (.tup (ks.map kV)) ∧ Q (.ref p) (upd H2 p (.dT [(ks, y)]))
theorem pe_disp1T (hu : X.A.units + 1 < cLine) (hk : PE X k tk) (hv : PE X v tv) : PE X (.Dict [some k] [v] pos) (tDisp1T tk tv) := by
  refine ⟨fun pins s σ H Q I q => ?_⟩
  have hn := I.hok.fresh (Nat.le_refl s.heap.objs.size)
  have I1 := I.laid (a := s.heap.objs.size) (o := .dT []) (h' := s.heap.push { cls := .type "dict", data := .dict #[] }) (t' := s.toks) (fun _ _ z => Heap.get?_push_of_some _ z) (Nat.le_refl _) (dt_empty s.heap I.big)
  rw [arm_eval_Dict, zip_pairTrees [some k] [v] X.env pos rfl rfl, dictDisplay_pairs (pairTrees [some k] [v] X.env pos) (by intro z; simp [pairTrees] at z) (by simp [pairTrees])]
  refine wpAny_bind (wpAny_standAt (wpAny_bind (wpAny_subDictH (knd := tupleKind (mixKind X.prog X.w)) (Q := fun d s' => wpAny (model X.prog X.w) X.A (pure (Value.ref d)) (EP X pins σ Q) X.xe s') (Nat.lt_of_succ_lt hu) (by simp [pairTrees]) ?_)))
  refine pairTrees_cons_walk (thn (hk.run pins _ σ _ _ I1 (q _ hn)) fun u s1 ⟨x, H1, I2, rx, q1⟩ => thn (hv.run pins s1 σ H1 _ I2 q1) fun w2 s2 ⟨y, H2, I3, ry, e, b, ks, ex, eb, q2⟩ => pairTrees_nil_walk ?_)
  subst ex
  obtain rfl : u = Value.ref b := rx
  obtain ⟨z, hd, xs, r0, dd⟩ := dt_of I3.hok e
  cases r0
  refine ⟨[(ks, b, w2)], ⟨rfl, rfl, key_of I3.hok eb, True.intro⟩, dd, fun h' tk2 dd' hs => wpAny_pure ⟨.ref s.heap.objs.size, _, ?_, rfl, q2⟩⟩
  obtain ⟨ob, es, ep, hq, h2, h3, h4, _, h5⟩ := dd'
  refine d_write I3 (by rw [e]; exact True.intro) hs ⟨ob, hq⟩ ⟨by show (1 : Nat) ≤ sizeLine; decide, hd, _, .cons ⟨rfl, ?_, ry⟩ .nil, ob, es, ep, hq, h2, h3, h4, h5⟩
  rw [upd_ne (ne_of eb e (fun z => nomatch z))]
  exact eb
end
section
variable [TabSet] {X : Cx} {F : Fr} {e a b c tg : Expr} {es : List Expr} {pos p : Pos} {f g h : M} {tf : MT} {fa : MA} {x : Str} {k : Nat} {pf pg : PF} {W : WX} {fo : MO'}
omit [TabSet] in
/-- {k: v}, k a tuple -/
def oDisp1T (f g : M) : MO' := fun δ => match f δ with
  | some (kd, δ1) => match g δ1 with
    | some (d, δ2) => match keysOf kd with
      | some ks => some (.dct (tD [(ks, d)]), δ2)
      | none => none
    | none => none
  | none => none
theorem o_disp1T {n : Nat} (hr : Room n X.A) (ha : PE X a (SE X.K F f)) (hb : PE X b (SE X.K F g)) : PE X (.Dict [some a] [b] pos) (SFO X.K F (oDisp1T f g)) := by
  refine pfo_of fun S δ ob δ' σ H Q R hf q => ⟨_, pe_disp1T (hu1 hr) ha hb, fun p hp => ?_⟩
  unfold oDisp1T at hf
  split at hf
  · rename_i kd δ1 h1
    split at hf
    · rename_i d δ2 h2
      split at hf
      · rename_i ks h3
        cases hf
        cases keysOf_eq h3
      · cases hf
    · cases hf
  · cases hf
/-! ### xs.extend(e) -/
omit [TabSet] in
def sExt (i : Nat) (f : M) : MS := fun δ => if isLst δ i = true then match f δ with
    | some (.list ds, δ1) => match δ1[i]? with
      | some (.ow (.lst xs)) => if xs.length + ds.length ≤ 100000 then some (.nx (δ1.set i (.ow (.lst (xs ++ ds))))) else none
      | _ => none
    | _ => none
  else none
theorem s_ext {i : Nat} {py apos pos2 : Pos} (ha : PE X a (SE X.K F f)) (hN : X.N[i]? = some x := by rfl) (hv : Vis X.env.scope x := by first | exact Or.inl rfl | exact Or.inr (Or.inl rfl) | exact Or.inr (Or.inr rfl)) (hd : (x == ("__debug__" : Str)) = false := by decide)
    (hcd : (x == ("__classdict__" : Str)) = false := by decide) (he : starEach (a :: []) X.env = (false, eval a X.env) :: starEach [] X.env := by rfl) (hbase : attributeBase (.Name x py) "extend" X.env (eval (.Name x py) X.env) = eval (.Name x py) X.env := by rfl)
    (hfew : ((backTo pos (starEach (a :: []) X.env)).all (fun x => !x.1) && (backToKw pos (keywordEach [] X.env)).all (fun x => x.1.isSome)
      && decide ((a :: []).length + ([] : List Keyword).length + (if ([] : List Keyword).isEmpty then 0 else 1) < 30)) = true := by rfl) (hs : swapsWith (.Call (.Attribute (.Name x py) "extend" apos) [a] [] pos) none pos2.line X.env = pure false := by rfl)
    (hline : (apos.endLine == pos.line) = true := by rfl) :
    PS X (.Expr (.Call (.Attribute (.Name x py) "extend" apos) [a] [] pos) pos2) (SS X.K X.mg F W (sExt i f)) :=
  ps_of (ps_expr (pe_bm PySem.F.plainAttrs_list PySem.F.slot_list_extend PySem.F.type_list_extend mt_extend (pe_var hN hv hd hcd) (pa_cons ha pa_nil he) (hbase := hbase) (hfew := hfew) (hline := hline) (hs := he)) hs) fun Z σ H hw => by
    obtain ⟨S, δ, o, R, hf, q⟩ := hw
    unfold sExt at hf
    split at hf
    · rename_i ho
      obtain ⟨zs, hz⟩ := isLst_of ho
      obtain ⟨a0, vs0, ea0, _, e0, _⟩ := ow_addr R hz
      split at hf
      · rename_i ds δ1 h1
        split at hf
        · rename_i xs h2
          split at hf
          · rename_i hlen
            cases hf
            refine ⟨.ref a0, ea0, .inl ⟨rfl, _, SqL.of e0⟩, S, δ, _, δ1, R, h1, fun v S1 H1 s1 R1 d1 => ?_⟩
            obtain ⟨a1, vs, w1, w2, w3, w4⟩ := ow_addr R1 h2
            rw [ea0] at w1
            cases w1
            obtain ⟨b0, us, rfl, e5, e6⟩ := dq_list d1
            refine ⟨a0, b0, vs, us, rfl, rfl, w3, R1.sub _ _ e5, sz_of (by rw [dqa_len w4, dqa_len e6]; exact hlen), ?_⟩
            exact q σ S1 _ s1.s (R1.mut h2 ea0 (dqa_app w4 e6))
          · cases hf
        · cases hf
      · cases hf
    · cases hf
/-! ### xs.index(y) -/
omit [TabSet] in
def uIndex (xs : List D) (y : D) : Option D := if shn 64 (.list xs) = true ∧ shn 64 y = true then (xs.findIdx? fun z => PyData.eqv z y).map fun j => .int (j : Nat) else none
omit [TabSet] in
def fIndex (f g : M) : M := fun δ => match f δ with
  | some (.list xs, δ1) => match g δ1 with
    | some (y, δ2) => (uIndex xs y).map fun z => (z, δ2)
    | none => none
  | _ => none
theorem e_index {n : Nat} (hr : Room n X.A) {apos : Pos} (ha : PE X a (SE X.K F f)) (hb : PE X b (SE X.K F g)) (he : starEach (b :: []) X.env = (false, eval b X.env) :: starEach [] X.env := by rfl) (hbase : attributeBase a "index" X.env (eval a X.env) = eval a X.env := by rfl)
    (hfew : ((backTo pos (starEach (b :: []) X.env)).all (fun x => !x.1) && (backToKw pos (keywordEach [] X.env)).all (fun x => x.1.isSome)
      && decide ((b :: []).length + ([] : List Keyword).length + (if ([] : List Keyword).isEmpty then 0 else 1) < 30)) = true := by rfl)
    (hline : (apos.endLine == pos.line) = true := by rfl) : PE X (.Call (.Attribute a "index" apos) [b] [] pos) (SE X.K F (fIndex f g)) := by
  refine pe_of fun S δ d δ' σ H Q R hf q => ⟨_, pe_bm PySem.F.plainAttrs_list PySem.F.slot_list_index PySem.F.type_list_index (mt_indexD (hu65 hr)) ha (pa_cons hb pa_nil he) (hbase := hbase) (hfew := hfew) (hline := hline) (hs := he), ?_⟩
  unfold fIndex at hf
  split at hf
  · rename_i xs δ1 h1
    split at hf
    · rename_i y δ2 h2
      unfold uIndex at hf
      split at hf
      · rename_i hc
        cases hj : xs.findIdx? fun z => PyData.eqv z y with
        | none => rw [hj] at hf; cases hf
        | some j =>
          rw [hj] at hf
          cases hf
          obtain ⟨hlt, hz, hm⟩ := List.findIdx?_eq_some_iff_getElem.mp hj
          refine ⟨S, δ, _, δ1, R, h1, fun v S1 H1 s1 R1 d1 => ?_⟩
          obtain ⟨a0, us, rfl, e1, e2⟩ := dq_list d1
          refine ⟨.inl ⟨rfl, _, SqL.of (R1.sub _ _ e1)⟩, S1, δ1, y, _, R1, h2, fun w S2 H2 s2 R2 d2 => ?_⟩
          refine ⟨a0, w, y, xs, j, xs[j], rfl, rfl, dq_dp (dq_ext R2.sub (dq_ext s2.s (.lst e1 e2))) (SeqAt.canLay_of_shaped hc.1), dq_dp (dq_ext R2.sub d2) (SeqAt.canLay_of_shaped hc.2), hc.1, hc.2, List.getElem?_eq_getElem hlt, hz, fun m z hm' hz' => ?_, q _ S2 H2 (s1.trans s2) R2 (.int _)⟩
          obtain ⟨hl, rfl⟩ := List.getElem?_eq_some_iff.mp hz'
          simpa using hm m hm'
      · cases hf
    · cases hf
  · cases hf
/-! ### max and min of two -/
omit [TabSet] in
def u2 (o : Int → Int → Int) (f g : M) : M := fOp (fun x y => match x, y with
  | .int i, .int j => some (.int (o i j))
  | _, _ => none) f g
omit [TabSet] in
def oMax (i j : Int) : Int := if j > i then j else i
omit [TabSet] in
def oMin (i j : Int) : Int := if j < i then j else i
theorem e_u2 {o : Int → Int → Int} {nm : Str} {id : String} {pp : Pos} (hc2 : CallR X (.builtin id) (fun xs H Q => ∃ i j, xs = [.int i, .int j] ∧ Q (.int (o i j)) H)) (hg : Gl X nm) (hm : X.mg nm = none) (hv : bootBuiltins nm = some (.builtin id)) (hnn : nm ≠ Str.ofString "__name__") (hnd : (nm == ("__debug__" : Str)) = false) (ha : PE X a (SE X.K F f)) (hb : PE X b (SE X.K F g))
    (hs : starEach [a, b] X.env = (false, eval a X.env) :: starEach [b] X.env) (hpl : (backTo pos (starEach [b] X.env)).any (·.1) = false) (nb : starEach [b] X.env = (false, eval b X.env) :: starEach [] X.env) :
    PE X (.Call (.Name nm pp) [a, b] [] pos) (SE X.K F (u2 o f g)) := by
  refine pe_of fun S δ d δ' σ H Q R hf q => ⟨_, pe_callB hc2 hg hm hv (pa_cons ha (pa_cons hb pa_nil nb) hs) hnn hnd hs hpl, ?_⟩
  obtain ⟨x, δ1, y, h1, h2, h3⟩ := fOp_of hf
  refine ⟨S, δ, x, δ1, R, h1, fun v S1 H1 s1 R1 d1 => ⟨S1, δ1, y, δ', R1, h2, fun w S2 H2 s2 R2 d2 => ?_⟩⟩
  cases x <;> cases y <;> simp only at h3 <;> first | cases h3 | skip
  rw [dq_int d1, dq_int d2]
  exact ⟨_, _, rfl, q _ S2 H2 (s1.trans s2) R2 (.int _)⟩
theorem e_max2 {pp : Pos} (hc : X.calm = true) (hg : Gl X "max" := by rfl) (hm : X.mg "max" = none) (ha : PE X a (SE X.K F f)) (hb : PE X b (SE X.K F g)) (hs : starEach [a, b] X.env = (false, eval a X.env) :: starEach [b] X.env := by rfl)
    (hpl : (backTo pos (starEach [b] X.env)).any (·.1) = false := by rfl) (nb : starEach [b] X.env = (false, eval b X.env) :: starEach [] X.env := by rfl) : PE X (.Call (.Name "max" pp) [a, b] [] pos) (SE X.K F (u2 oMax f g)) :=
  e_u2 (call_max2 hc) hg hm rfl (by decide) (by decide) ha hb hs hpl nb
theorem e_min2 {pp : Pos} (hc : X.calm = true) (hg : Gl X "min" := by rfl) (hm : X.mg "min" = none) (ha : PE X a (SE X.K F f)) (hb : PE X b (SE X.K F g)) (hs : starEach [a, b] X.env = (false, eval a X.env) :: starEach [b] X.env := by rfl)
    (hpl : (backTo pos (starEach [b] X.env)).any (·.1) = false := by rfl) (nb : starEach [b] X.env = (false, eval b X.env) :: starEach [] X.env := by rfl) : PE X (.Call (.Name "min" pp) [a, b] [] pos) (SE X.K F (u2 oMin f g)) :=
  e_u2 (call_min2 hc) hg hm rfl (by decide) (by decide) ha hb hs hpl nb
/-! ### range(i, j, -1) -/
omit [TabSet] in
def rgdD (i j : Int) : List D := (List.range (i - j).toNat).map fun k => .int (i - (k : Nat))
omit [TabSet] in
def lRgd (f g : M) : MA := fun δ => match f δ with
  | some (.int i, δ1) => match g δ1 with
    | some (.int j, δ2) => if rgOk j i = true then some (rgdD i j, δ2) else none
    | _ => none
  | _ => none
theorem i_rgd {pp p1 p2 : Pos} {kk : Nat} (hg : Gl X "range" := by rfl) (hm : X.mg "range" = none) (ha : PE X a (SE X.K F f)) (hb : PE X b (SE X.K F g))
    (hs : starEach [a, b, .UnaryOp .USub (.Constant (.int 1) kk p1) p2] X.env = (false, eval a X.env) :: starEach [b, .UnaryOp .USub (.Constant (.int 1) kk p1) p2] X.env := by rfl)
    (hs2 : starEach [b, .UnaryOp .USub (.Constant (.int 1) kk p1) p2] X.env = (false, eval b X.env) :: starEach [.UnaryOp .USub (.Constant (.int 1) kk p1) p2] X.env := by rfl)
    (hs3 : starEach [.UnaryOp .USub (.Constant (.int 1) kk p1) p2] X.env = (false, eval (.UnaryOp .USub (.Constant (.int 1) kk p1) p2) X.env) :: starEach [] X.env := by rfl)
    (hpl : (backTo pos (starEach [b, .UnaryOp .USub (.Constant (.int 1) kk p1) p2] X.env)).any (·.1) = false := by rfl) :
    PI X tg (.Call (.Name "range" pp) [a, b, .UnaryOp .USub (.Constant (.int 1) kk p1) p2] [] pos) (SI X.K F (lRgd f g)) := by
  refine pi_of fun S δ ds δ' σ H R Rs hf q => ⟨_, pi_range3 hg hm (pa_cons ha (pa_cons hb (pa_cons (e_neg (F := F) e_int) pa_nil hs3) hs2) hs) hs hpl, ?_⟩
  unfold lRgd at hf
  split at hf
  · rename_i i δ1 h1
    split at hf
    · rename_i j δ2 h2
      split at hf
      · rename_i hc
        cases hf
        have ok := hc
        unfold rgOk at ok
        simp only [Bool.and_eq_true, decide_eq_true_eq] at ok
        refine ⟨S, δ, _, δ1, Rs, h1, fun v S1 H1 s1 R1 d1 => ⟨S1, δ1, _, _, R1, h2, fun w S2 H2 s2 R2 d2 => ⟨S2, _, .int (-1), _, R2, rfl, fun u S3 H3 s3 R3 d3 => ?_⟩⟩⟩
        rw [dq_int d1, dq_int d2, dq_int d3]
        refine ⟨i, j, -1, (i - j).toNat, rfl, RgC.neg (by omega) (by omega) (by omega) (by omega), q _ S3 H3 ((s1.trans s2).trans s3) R3 ⟨fun n S4 H4 x1 x2 hi => ?_, fun n S4 H4 x H5 d x1 x2 hy hd => ?_, fun n S4 H4 x1 x2 hi => ?_⟩⟩
        · show n < (i - j).toNat
          simpa [rgdD] using hi
        · obtain ⟨rfl, rfl⟩ := hy
          unfold rgdD at hd
          rw [List.getElem?_map] at hd
          cases hr : (List.range (i - j).toNat)[n]? with
          | none => rw [hr] at hd; cases hd
          | some m =>
            rw [hr] at hd
            cases hd
            obtain ⟨hl, rfl⟩ := List.getElem?_eq_some_iff.mp hr
            refine ⟨S4, Grow.refl x2, ?_⟩
            rw [List.getElem_range, show i + (n : Nat) * (-1) = i - (n : Nat) by omega]
            exact .int _
        · show (i - j).toNat ≤ n
          simpa [rgdD] using hi
      · cases hf
    · cases hf
  · cases hf
end
end Sd

/-! Wp of what Sd18 to Sd20 bring. -/
namespace Sd
open PySem PySem.Spec PyProof.Rows L2
section
variable {f g h : M} {tf tg : MT} {fa ga : MA} {fr : MR} {δ : DE} {pf pg : PF} {pl ph : PO'} {fo : MO'} {fs : MS}
variable {Q : D × DE → Prop} {QT : Bool × DE → Prop} {QA : List D × DE → Prop} {QD : D → Prop} {QO : Ob × DE → Prop} {QS : Out → Prop} {QB : Bool → Prop}
theorem slot3 (o : Option Slot) : (∃ ob, o = some (.ow ob)) ∨ ∀ ob, o ≠ some (.ow ob) := by
  rcases o with _ | (_ | _ | ob | _)
  · exact .inr fun _ z => by cases z
  · exact .inr fun _ z => by cases z
  · exact .inr fun _ z => by cases z
  · exact .inl ⟨ob, rfl⟩
  · exact .inr fun _ z => by cases z
@[simp] theorem obD_l {xs : List D} : obD (.lst xs) = .list xs := rfl
@[simp] theorem obD_d {kvs : List (D × D)} : obD (.dct kvs) = .dict kvs := rfl
@[simp] theorem wp_fCmpR {i : Nat} {o : D → D → Option Bool} : Wp (fCmpR i o g δ) Q ↔ Wp (g δ) fun p => ∃ ob, p.2[i]? = some (.ow ob) ∧ Wp (o p.1 (obD ob)) fun k => Q (.bool k, p.2) := by
  unfold fCmpR
  rcases g δ with _ | ⟨x, δ1⟩ <;> simp
  rcases δ1[i]? with _ | s
  · simp
  rcases s with _ | d | ob | ns <;> simp
  rcases o x (obD ob) with _ | k <;> simp
@[simp] theorem wp_fCmpRT {i : Nat} {o : D → D → Option Bool} : Wp (fCmpRT i o g δ) QT ↔ Wp (g δ) fun p => ∃ ob, p.2[i]? = some (.ow ob) ∧ Wp (o p.1 (obD ob)) fun k => QT (k, p.2) := by
  unfold fCmpRT fCmpR
  rcases g δ with _ | ⟨x, δ1⟩ <;> simp
  rcases h1 : δ1[i]? with _ | s
  · simp [h1]
  rcases s with _ | d | ob | ns <;> simp [h1]
  rcases h2 : o x (obD ob) with _ | k <;> simp
@[simp] theorem wp_fIxO {i : Nat} : Wp (fIxO i g δ) Q ↔ isOw δ i = true ∧ Wp (g δ) fun p => ∃ ob, p.2[i]? = some (.ow ob) ∧ Wp (ixE (obD ob) p.1) fun z => Q (z, p.2) := by
  unfold fIxO
  by_cases hh : isOw δ i = true <;> simp [hh]
  rcases g δ with _ | ⟨x, δ1⟩ <;> simp
  rcases δ1[i]? with _ | s
  · simp
  rcases s with _ | d | ob | ns <;> simp
@[simp] theorem wp_sPutO {i : Nat} : Wp (sPutO i g f δ) QS ↔ isOw δ i = true ∧ Wp (f δ) fun p => Wp (g p.2) fun q => ∃ kvs, q.2[i]? = some (.ow (.dct kvs)) ∧ Wp (dPut kvs q.1 p.1) fun kvs' => QS (.nx (q.2.set i (.ow (.dct kvs')))) := by
  unfold sPutO
  by_cases hh : isOw δ i = true <;> simp [hh]
  rcases f δ with _ | ⟨x, δ1⟩ <;> simp
  rcases g δ1 with _ | ⟨y, δ2⟩ <;> simp
  rcases δ2[i]? with _ | s
  · simp
  rcases s with _ | d | (xs | kvs) | ns <;> simp
  rcases dPut kvs y x with _ | k <;> simp
@[simp] theorem wp_oNew {kind : DE → Bool} : Wp (oNew kind δ) QO ↔ QO (.dct (if kind δ = true then tD [] else []), δ) := by simp [oNew]
@[simp] theorem wp_sSetB {i : Nat} : Wp (sSetB i fo δ) QS ↔ Wp (fo δ) fun p => free0 i p.2 = true ∧ QS (.nx (p.2.set i (.ow p.1))) := by
  unfold sSetB
  rcases fo δ with _ | ⟨x, δ1⟩ <;> simp
@[simp] theorem wp_oDisp1T : Wp (oDisp1T f g δ) QO ↔ Wp (f δ) fun p => Wp (g p.2) fun q => Wp (keysOf p.1) fun ks => QO (.dct (tD [(ks, q.1)]), q.2) := by
  unfold oDisp1T
  rcases f δ with _ | ⟨x, δ1⟩ <;> simp
  rcases g δ1 with _ | ⟨y, δ2⟩ <;> simp
  rcases keysOf x with _ | k <;> simp
/-- a dict -/
def dictK (Q : List (D × D) → Prop) : D → Prop
  | .dict kvs => Q kvs
  | _ => False
@[simp] theorem dictK_d {Q : List (D × D) → Prop} {kvs : List (D × D)} : dictK Q (.dict kvs) ↔ Q kvs := Iff.rfl
@[simp] theorem wp_fGet1 : Wp (fGet1 f g δ) Q ↔ Wp (f δ) fun p => dictK (fun kvs => Wp (g p.2) fun q => Wp (dGet kvs q.1) fun r => Q (r.getD .none, q.2)) p.1 := by
  unfold fGet1
  rcases f δ with _ | ⟨x, δ1⟩
  · simp
  cases x <;> simp [dictK]
  rcases g δ1 with _ | ⟨y, δ2⟩ <;> simp
@[simp] theorem wp_fGet2 : Wp (fGet2 f g h δ) Q ↔ Wp (f δ) fun p => dictK (fun kvs => Wp (g p.2) fun q => Wp (h q.2) fun z => Wp (dGet kvs q.1) fun r => Q (r.getD z.1, z.2)) p.1 := by
  unfold fGet2
  rcases f δ with _ | ⟨x, δ1⟩
  · simp
  cases x <;> simp [dictK]
  rcases g δ1 with _ | ⟨y, δ2⟩ <;> simp
  rcases h δ2 with _ | ⟨z, δ3⟩ <;> simp
@[simp] theorem wp_sRetB {i : Nat} : Wp (sRetB i δ) QS ↔ ∃ ob, δ[i]? = some (.ow ob) ∧ i ≠ 0 ∧ QS (.rt (obD ob) (δ.set i (.sh (obD ob)))) := by
  unfold sRetB
  rcases hx : δ[i]? with _ | s
  · simp
  rcases s with _ | d | ob | ns <;> simp
@[simp] theorem wp_sExt {i : Nat} : Wp (sExt i f δ) QS ↔ isLst δ i = true ∧ Wp (f δ) fun p => ∃ ds, p.1 = .list ds ∧ ∃ xs, p.2[i]? = some (.ow (.lst xs)) ∧ xs.length + ds.length ≤ 100000 ∧ QS (.nx (p.2.set i (.ow (.lst (xs ++ ds))))) := by
  unfold sExt
  by_cases hh : isLst δ i = true <;> simp [hh]
  rcases f δ with _ | ⟨x, δ1⟩
  · simp
  cases x <;> simp
  rcases δ1[i]? with _ | s
  · simp
  rcases s with _ | d | (xs | kvs) | ns <;> simp
@[simp] theorem wp_fIndex : Wp (fIndex f g δ) Q ↔ Wp (f δ) fun p => ∃ xs, p.1 = .list xs ∧ Wp (g p.2) fun q => Wp (uIndex xs q.1) fun z => Q (z, q.2) := by
  unfold fIndex
  rcases f δ with _ | ⟨x, δ1⟩
  · simp
  cases x <;> simp
  rcases g δ1 with _ | ⟨y, δ2⟩ <;> simp
@[simp] theorem wp_u2 {o : Int → Int → Int} : Wp (u2 o f g δ) Q ↔ Wp (f δ) fun p => Wp (g p.2) fun q => intK (fun i => intK (fun j => Q (.int (o i j), q.2)) q.1) p.1 := by
  unfold u2
  simp only [wp_fOp]
  constructor
  · intro h
    exact h.mono fun p hp => hp.mono fun q hq => by
      rcases p with ⟨x, δ1⟩
      rcases q with ⟨y, δ2⟩
      cases x <;> cases y <;> simp [intK] at hq ⊢ <;> exact hq
  · intro h
    exact h.mono fun p hp => hp.mono fun q hq => by
      rcases p with ⟨x, δ1⟩
      rcases q with ⟨y, δ2⟩
      cases x <;> cases y <;> simp [intK] at hq ⊢ <;> exact hq
@[simp] theorem wp_lRgd : Wp (lRgd f g δ) QA ↔ Wp (f δ) fun p => ∃ i, p.1 = .int i ∧ Wp (g p.2) fun q => ∃ j, q.1 = .int j ∧ rgOk j i = true ∧ QA (rgdD i j, q.2) := by
  unfold lRgd
  rcases f δ with _ | ⟨x, δ1⟩
  · simp
  cases x <;> simp
  rcases g δ1 with _ | ⟨y, δ2⟩
  · simp
  cases y <;> simp
@[simp] theorem wp_ixE_l {xs : List D} {k : D} : Wp (ixE (.list xs) k) QD ↔ Wp (ixD (.list xs) k) QD := Iff.rfl
@[simp] theorem wp_ixE_t {xs : List D} {k : D} : Wp (ixE (.tuple xs) k) QD ↔ Wp (ixD (.tuple xs) k) QD := Iff.rfl
@[simp] theorem wp_ixE_tI {ns : List Int} {k : D} : Wp (ixE (tI ns) k) QD ↔ Wp (ixD (tI ns) k) QD := Iff.rfl
@[simp] theorem wp_ixE_d {kvs : List (D × D)} {k : D} : Wp (ixE (.dict kvs) k) QD ↔ Wp (dGet kvs k) fun r => Wp r QD := by
  simp only [ixE]
  rcases dGet kvs k with _ | r <;> simp
@[simp] theorem wp_cInE_d {kvs : List (D × D)} {k : D} : Wp (cInE k (.dict kvs)) QB ↔ Wp (dGet kvs k) fun r => QB r.isSome := by simp [cInE]
@[simp] theorem wp_cInE_l {xs : List D} {k : D} : Wp (cInE k (.list xs)) QB ↔ Wp (cIn k (.list xs)) QB := Iff.rfl
@[simp] theorem wp_cInE_t {xs : List D} {k : D} : Wp (cInE k (.tuple xs)) QB ↔ Wp (cIn k (.tuple xs)) QB := Iff.rfl
@[simp] theorem wp_cNotInE {d e : D} : Wp (cNotInE d e) QB ↔ Wp (cInE d e) fun k => QB (!k) := by simp [cNotInE]
end
end Sd

/-! Dicts by whole numbers, and by tuples of them. -/
namespace Sd
open PySem PySem.Spec PyProof.Rows L2
section
variable {α β : Type} [DecidableEq α]
def valT (kk : List (α × β)) (k : α) : Option β := (kk.find? fun p => decide (p.1 = k)).map (·.2)
def putT (kk : List (α × β)) (k : α) (v : β) : List (α × β) := if (kk.any fun p => decide (p.1 = k)) = true then kk.map fun p => if p.1 = k then (p.1, v) else p else kk ++ [(k, v)]
@[simp] theorem valT_nil {k : α} : valT ([] : List (α × β)) k = none := rfl
theorem valT_cons {p : α × β} {r : List (α × β)} {k : α} : valT (p :: r) k = if p.1 = k then some p.2 else valT r k := by
  by_cases e : p.1 = k <;> simp [valT, List.find?_cons, e]
theorem valT_any (k : α) : ∀ kk : List (α × β), (kk.any fun p => decide (p.1 = k)) = (valT kk k).isSome
  | [] => rfl
  | p :: r => by
    rw [List.any_cons, valT_cons, valT_any k r]
    by_cases e : p.1 = k <;> simp [e]
theorem valT_map (k j : α) (v : β) : ∀ kk : List (α × β), valT (kk.map fun p => if p.1 = k then (p.1, v) else p) j = (valT kk j).map fun x => if j = k then v else x
  | [] => rfl
  | p :: r => by
    rw [List.map_cons, valT_cons, valT_cons, valT_map k j v r]
    by_cases e : p.1 = k
    · rw [if_pos e]
      by_cases e2 : p.1 = j
      · simp only [e2, if_true, Option.map_some]
        rw [if_pos (e2.symm.trans e)]
      · simp only [e2, if_false]
    · rw [if_neg e]
      by_cases e2 : p.1 = j
      · simp only [e2, if_true, Option.map_some]
        rw [if_neg (fun z => e (e2.trans z))]
      · simp only [e2, if_false]
theorem valT_app (k : α) : ∀ (kk ll : List (α × β)), valT (kk ++ ll) k = (valT kk k).or (valT ll k)
  | [], _ => rfl
  | p :: r, ll => by
    rw [List.cons_append, valT_cons, valT_cons, valT_app k r ll]
    by_cases e : p.1 = k <;> simp [e]
theorem valT_put (kk : List (α × β)) (k j : α) (v : β) : valT (putT kk k v) j = if j = k then some v else valT kk j := by
  unfold putT
  rw [valT_any]
  split
  · rename_i h
    rw [valT_map]
    by_cases e : j = k
    · subst e
      obtain ⟨x, hx⟩ := Option.isSome_iff_exists.mp h
      simp [hx]
    · simp [e]
  · rename_i h
    rw [valT_app]
    have hn : valT kk k = none := by simpa using h
    by_cases e : j = k
    · subst e
      simp [hn, valT_cons]
    · simp [e, valT_cons, Ne.symm e]
theorem putT_len (kk : List (α × β)) (k : α) (v : β) : (putT kk k v).length ≤ kk.length + 1 := by
  unfold putT
  split
  · simp
  · simp
theorem putT_new {kk : List (α × β)} {k : α} {v : β} (h : valT kk k = none) : putT kk k v = kk ++ [(k, v)] := by
  unfold putT
  rw [valT_any, h]
  rfl
end
section
variable {α : Type} [DecidableEq α] {en : α → D} (he : ∀ a b, PyData.eqv (en a) (en b) = decide (a = b))
include he
theorem lk_en (k : α) : ∀ kk : List (α × D), lkD (kk.map fun p => (en p.1, p.2)) (en k) = valT kk k
  | [] => rfl
  | p :: r => by
    rw [valT_cons, ← lk_en k r]
    by_cases e : p.1 = k <;> simp [lkD, List.find?_cons, he, e]
theorem put_en (k : α) (v : D) (kk : List (α × D)) : putD (kk.map fun p => (en p.1, p.2)) (en k) v = (putT kk k v).map fun p => (en p.1, p.2) := by
  unfold putD putT
  have h1 : ((kk.map fun p => (en p.1, p.2)).any fun p => PyData.eqv p.1 (en k)) = kk.any fun p => decide (p.1 = k) := by
    rw [List.any_map]
    congr 1
    funext p
    exact he p.1 k
  rw [h1]
  split
  · rw [List.map_map, List.map_map]
    congr 1
    funext p
    by_cases e : p.1 = k <;> simp [he, e]
  · simp
end
/-- a dict by whole numbers; by tuples of them -/
def dI (kk : List (Int × D)) : List (D × D) := kk.map fun p => (.int p.1, p.2)
def dR (kk : List (List Int × D)) : List (D × D) := (.none, .none) :: kk.map fun p => (tI p.1, p.2)
section
variable {kk : List (Int × D)} {rr : List (List Int × D)} {i : Int} {ns : List Int} {v : D} {Q : Option D → Prop} {QP : List (D × D) → Prop}
theorem isTk_dI : isTk (dI kk) = false := by cases kk <;> rfl
@[simp] theorem wp_dGet_I : Wp (dGet (dI kk) (.int i)) Q ↔ Q (valT kk i) := by
  have h1 : fits (dI kk) (.int i) = true := by simp [fits, isTk_dI, keyOf]
  have h2 : lkD (dI kk) (.int i) = valT kk i := lk_en (en := PyData.int) (fun _ _ => eqv_ii) i kk
  simp [dGet, h1, h2]
@[simp] theorem wp_dPut_I : Wp (dPut (dI kk) (.int i) v) QP ↔ kk.length ≤ 100000 ∧ QP (dI (putT kk i v)) := by
  have h1 : fits (dI kk) (.int i) = true := by simp [fits, isTk_dI, keyOf]
  have h2 : putD (dI kk) (.int i) v = dI (putT kk i v) := put_en (en := PyData.int) (fun _ _ => eqv_ii) i v kk
  have h3 : (dI kk).length = kk.length := by simp [dI]
  simp [dPut, h1, h2, h3]
theorem lk_dR : lkD (dR rr) (tI ns) = valT rr ns := by
  have h2 : lkD (rr.map fun p => (tI p.1, p.2)) (tI ns) = valT rr ns := lk_en (en := tI) (fun _ _ => eqv_tItI) ns rr
  rw [← h2]
  simp [lkD, dR, List.find?_cons]
theorem put_dR : putD (dR rr) (tI ns) v = dR (putT rr ns v) := by
  have h2 : putD (rr.map fun p => (tI p.1, p.2)) (tI ns) v = (putT rr ns v).map fun p => (tI p.1, p.2) := put_en (en := tI) (fun _ _ => eqv_tItI) ns v rr
  unfold dR
  rw [← h2]
  unfold putD
  simp only [List.any_cons, eqv_ntI, Bool.false_or, List.map_cons, Bool.false_eq_true, if_false]
  split <;> rfl
theorem tD_dR (r : List Int) (d : D) : tD [(r.map .inl, d)] = dR [(r, d)] := by
  simp [tD, dR, keysD, tI]
  intro a _
  rfl
theorem tD_nil : tD [] = dR [] := rfl
end
section
variable {α : Type} {Q : D → Prop}
theorem bools_mapT (f : α → Bool) : ∀ xs : List α, boolsD (xs.map fun x => .bool (f x)) = some (xs.map f)
  | [] => rfl
  | x :: r => by
    rw [List.map_cons, List.map_cons]
    simp only [boolsD, bools_mapT f r, Option.map_some]
@[simp] theorem wp_uAll_map {f : α → Bool} {xs : List α} : Wp (uAll (.list (xs.map fun x => .bool (f x)))) Q ↔ Q (.bool (xs.all f)) := by
  simp only [uAll, bools_mapT, Option.map_some, wp_some, List.all_map]
  exact Iff.rfl
@[simp] theorem wp_uAny_map {f : α → Bool} {xs : List α} : Wp (uAny (.list (xs.map fun x => .bool (f x)))) Q ↔ Q (.bool (xs.any f)) := by
  simp only [uAny, bools_mapT, Option.map_some, wp_some, List.any_map]
  exact Iff.rfl
theorem ints_mapT (f : α → Int) : ∀ xs : List α, intsD (xs.map fun x => .int (f x)) = some (xs.map f)
  | [] => rfl
  | x :: r => by
    rw [List.map_cons, List.map_cons]
    simp only [intsD, ints_mapT f r, Option.map_some]
@[simp] theorem wp_uSum_map {f : α → Int} {xs : List α} : Wp (uSum (.list (xs.map fun x => .int (f x)))) Q ↔ Q (.int (xs.map f).sum) := by
  simp only [uSum, ints_mapT, Option.map_some, wp_some]
end
theorem atI_last {α : Type} (xs : List α) : atI xs (-1) = xs.getLast? := by
  unfold atI ixN
  rw [if_neg (by decide)]
  cases xs with
  | nil => rfl
  | cons x r =>
    rw [if_pos (by simp only [List.length_cons]; omega)]
    rw [List.getLast?_eq_getElem?]
    show (x :: r)[(-1 + ((x :: r).length : Int)).toNat]? = _
    congr 1
    simp only [List.length_cons]
    omega
theorem wp_last {α : Type} {xs : List α} {Q : α → Prop} (h : xs ≠ []) (q : ∀ v, xs.getLast? = some v → Q v) : Wp (atI xs (-1)) Q := by
  obtain ⟨v, hv⟩ : ∃ v, xs.getLast? = some v := ⟨_, List.getLast?_eq_some_getLast h⟩
  exact wp_of_eq ((atI_last xs).trans hv) (q v hv)
end Sd

/-! try: call() / except X as e: .. / except Y: return .. , where X never comes. -/
namespace Sd
open PySem PySem.Spec PyProof.Rows L2
open Evl (Ex)
abbrev Sui := Addr → Value → Option Addr → TS
/-- a clause: its class, what it does if it takes the exception (none: it never does) -/
abbrev Cl := Value × Option Sui
/-- what the clauses wish of an exception -/
def wCl (K : PySem.W.Frag) (D : Ends) : List Cl → WX
  | [] => fun _ _ _ _ => False
  | (c, o) :: r => fun cls d σ H => ∃ k, PySem.W.exmOne K cls c = some k ∧ (k = true → ∃ ts, o = some ts ∧ ∀ a, H a = none → ts a cls d D σ H) ∧ (k = false → wCl K D r cls d σ H)
inductive ClOk (X : Cx) : List ExceptHandler → List Cl → Prop
  | nil : ClOk X [] []
  | plain {x : Str} {c : Value} {ts : Sui} {st : Stmt} {sts : List Stmt} {p1 p2 : Pos} {hs : List ExceptHandler} {l : List Cl} (nm : Names X x c)
      (su : ∀ (a : Addr) (oe : Obj) (cls : Value) (d : Option Addr) (pn : List (Addr × Obj)), Zc cls d oe → (∃ vs, oe.data = .fields vs) → PSs (X.suite a ((a, oe) :: pn)) (st :: sts) (ts a cls d)) (r : ClOk X hs l) :
      ClOk X (.ExceptHandler (some (.Name x p1)) none (st :: sts) p2 :: hs) ((c, some ts) :: l)
  | never {x : Str} {c : Value} {en : Option Str} {sts : List Stmt} {p1 p2 : Pos} {hs : List ExceptHandler} {l : List Cl} (nm : Names X x c) (r : ClOk X hs l) :
      ClOk X (.ExceptHandler (some (.Name x p1)) en sts p2 :: hs) ((c, none) :: l)
section
variable {X : Cx}
/-- a clause's class is looked up -/
theorem look_class {Y : Cx} {x : Str} {c : Value} {p1 : Pos} {pins : List (Addr × Obj)} {σ : L2.St} {H : Hp} {t : Shared} (nm : Names Y x c) (I : Inv Y pins σ H t) {Q : Value → Shared → Prop} {E : Value → Shared → Prop} (q : Q c t) :
    wpAny (model Y.prog Y.w) Y.A (eval (.Name x p1) Y.env) Q E t := by
  obtain ⟨hg, hd, h | ⟨h, hv, hn⟩⟩ := nm
  · exact ld_glob I hg h q hd
  · exact ld_blt I hg h hv q hn hd
/-- one clause is asked: what then -/
theorem one_clause {x : Str} {c : Value} {en : Option Str} {sts : List Stmt} {p1 p2 : Pos} {hs : List ExceptHandler} {k : Bool} {pins : List (Addr × Obj)} {σ : L2.St} {H : Hp} {t : Shared} {a : Addr} {oe : Obj} {cls : Value}
    {Q : Flow → Shared → Prop} {E : Value → Shared → Prop}
    (nm : Names X x c) (S : Inv (X.suite a ((a, oe) :: (X.pn ++ pins))) [] σ H t) (Kt : X.K.In t.heap) (ea : t.heap.get? a = some oe) (et : oe.cls = cls) (he : PySem.W.exmOne X.K cls c = some k)
    (yes : k = true → codeAny (model X.prog X.w) (X.A.mark (some (.ref a))) (.handlers (.ref a) [.ExceptHandler none en sts p2] X.env) (fun r s2 => match r with
          | .ok f => (match en with
            | none => Q f s2
            | some n => wpAny (model X.prog X.w) X.A (do bindName X.env n .none; unbindBehindTheSuite X.env n p2) (fun _ s3 => Q f s3) E s2)
          | .error z => cameBackBy (model X.prog X.w) X.A X.env E z s2) t)
    (no : k = false → wpAny (model X.prog X.w) X.A (handleBy (.ref a) X.env hs) Q E t) :
    wpAny (model X.prog X.w) X.A (handleBy (.ref a) X.env (.ExceptHandler (some (.Name x p1)) en sts p2 :: hs)) Q E t := by
  have lt : PySem.W.Looks (model X.prog X.w) t.heap (typeOf (.ref a)) cls := fun A Q E s m q => wpAny_typeOf_ref (m _ _ ea) (by rw [et]; exact q)
  have em := PySem.W.exm_one (M := model X.prog X.w) Kt lt he
  refine wpAny_handleBy_cons (codeAny_handlers_test (look_class (Y := X.suite a ((a, oe) :: (X.pn ++ pins))) nm S (em.here ?_))) nofun
  cases k
  · exact no rfl
  · exact yes rfl
/-- the clauses, one after the other, over an exception that has landed -/
theorem clauses {D : Ends} {pins : List (Addr × Obj)} {σ : L2.St} {H : Hp} {s0 s1 : Shared} {B : Heap} {a : Addr} {cls : Value} {d : Option Addr} (ok : X.Ok) (J : ∀ h', B.StaysIn h' → s1.heap.UpToSlots h' → Inv X pins σ H { s0 with heap := h' })
    (na : H a = none) (nL : a ≠ X.env.locals) (nF : a ∉ X.fs) (up : s1.heap.UpToSlots s0.heap) (fl : HandSPX.FlyingZ B X.stack a (Zc cls d) s0.heap)
    {hs : List ExceptHandler} {l : List Cl} (C : ClOk X hs l) (w : wCl X.K D l cls d σ H) : wpAny (model X.prog X.w) X.A (handleBy (.ref a) X.env hs) (L2.SP X pins D) X.xe s0 := by
  have J0 := J _ fl.1 up
  obtain ⟨oe, vs, eo, zo, vo⟩ := fl.there
  have S0 := J0.suite eo vo na nL nF
  induction C with
  | nil => exact w.elim
  | never nm _ ih =>
    obtain ⟨k, hk, y, n⟩ := w
    refine one_clause nm S0 J0.kIn eo zo.1 hk (fun z => ?_) fun z => ih (n z)
    obtain ⟨_, q, _⟩ := y z
    cases q
  | @plain x c ts st sts p1 p2 hs l nm su _ ih =>
    obtain ⟨k, hk, y, n⟩ := w
    refine one_clause nm S0 J0.kIn eo zo.1 hk (fun z => codeAny_handlers_suite (HandSPX.lands_againZ fl fun h' f' u' => ?_)) fun z => ih (n z)
    obtain ⟨ts', q, run⟩ := y z
    cases q
    have J1 := J h' f'.1 (up.trans u')
    obtain ⟨o1, v1, e1, z1, w1⟩ := f'.there
    refine wpAny_mono ((su a o1 cls d (X.pn ++ pins) z1 ⟨_, w1⟩).run [] _ _ H _ (J1.suite e1 w1 na nL nF) (run _ na)) (fun f t r => ?_) (fun _ _ z => z.elim)
    cases f
    case ret => obtain ⟨u, σ6, H6, S6, q⟩ := r; exact ⟨u, σ6, H6, S6.unsuite ok, q⟩
    all_goals (obtain ⟨σ6, H6, S6, q⟩ := r; exact ⟨σ6, H6, S6.unsuite ok, q⟩)
/-- try: .. / except ..: .. -/
theorem ps_try_cl {body : List Stmt} {h0 : ExceptHandler} {hs : List ExceptHandler} {l : List Cl} {pos : Pos} {tb : WX → TS} (hst : X.stack = X.env :: X.outer) (hf : X.env.frame = some X.env.locals)
    (hb : ∀ (W : WX) (pn : List (Addr × Obj)) (xe : Value → Shared → Prop), Takes (X.tr pn xe) W → PassesOwn (model X.prog X.w) X.A X.env xe → PSs (X.tr pn xe) body (tb W))
    (C : ClOk X (h0 :: hs) l) : PS X (.Try body (h0 :: hs) [] [] pos) (fun D σ H => tb (wCl X.K D l) D σ H) := by
  constructor
  intro pins s σ H D I h
  have ok := I.ok
  have fr : X.A.frames = some (X.env :: X.outer) := ok.frames.trans (congrArg some hst)
  refine wpAny_Try_except (wpAny_mono ((hb (wCl X.K D l) (X.pn ++ pins) (fun e t => wpAny (model X.prog X.w) X.A (noteFrame e X.env) (fun _ t2 => wpAny (model X.prog X.w) X.A (setFlight e none) (fun _ t3 =>
    wpAny (model X.prog X.w) X.A (handleBy e X.env (h0 :: hs)) (L2.SP X pins D) X.xe t3) X.xe t2) X.xe t) (fun u t xx => ?_) PassesOwn.looking).run [] s σ H D (I.toTry _) h) (fun f t r => ?_) fun _ _ z => z)
  · obtain ⟨a, B, sI, p', σ', H', cls, d, rfl, J, nb, up, sky, na, os, ag, w⟩ := xx
    have J0 : Inv X pins σ' H' sI := J.ofTry ok
    refine Sky.land Zc.steady fr hf (by rw [← hst]; exact sky) fun h3 fl up3 => ?_
    obtain ⟨oe, vs, eo, _, vo⟩ := fl.there
    have out : a ∉ frs (X.env :: X.outer) := fun m => by
      obtain ⟨_, o, q, no⟩ := fl.2.2.1.mem m
      rw [eo] at q
      cases q
      exact no _ vo
    refine clauses (s1 := sI) (s0 := { t with heap := h3 }) ok (fun h' st u => J0.landed (s' := { t with heap := h' }) nb st u os ag) na
      (fun z => out (List.mem_filterMap.mpr ⟨X.env, List.mem_cons_self, by rw [hf, z]⟩))
      (fun m => ?_) (up.trans up3) (by rw [hst]; exact fl) C w
    obtain ⟨e, me, q⟩ := List.mem_filterMap.mp m
    exact out (List.mem_filterMap.mpr ⟨e, List.mem_cons_of_mem _ me, q⟩)
  · cases f
    case ret => obtain ⟨v, σ', H', J, q⟩ := r; exact ⟨v, σ', H', J.ofTry ok, q⟩
    case next => obtain ⟨σ', H', J, q⟩ := r; exact wpAny_execs_nil ⟨σ', H', J.ofTry ok, q⟩
    all_goals (obtain ⟨σ', H', J, q⟩ := r; exact ⟨σ', H', J.ofTry ok, q⟩)
end

/-! ### the def that tells, with clauses that never come -/
def wHn (K : PySem.W.Frag) (Q : VK) : List (Value × Option Str) → XK
  | [] => fun _ _ _ => False
  | (c, o) :: r => fun cls d H => ∃ b, PySem.W.exmOne K cls c = some b ∧ (b = true → ∃ w, o = some w ∧ Q (.str w) H) ∧ (b = false → wHn K Q r cls d H)
def TTn (K : PySem.W.Frag) (l : List (Value × Option Str)) (dflt : Str) : (XK → Hp → VK → Prop) → Hp → VK → Prop := fun tl H Q => tl (wHn K Q l) H fun _ H' => Q (.str dflt) H'
def cls_of (l : List (Value × Option Str)) : List Cl := l.map fun p => (p.1, p.2.map tStr)
theorem hn_say {Z : Cx} {x ret : Str} {c : Value} {j : Nat} {np p5 p6 p7 : Pos} {hds : List ExceptHandler} {l : List (Value × Option Str)} (hc : Names Z x c) (r : ClOk Z hds (cls_of l)) :
    ClOk Z (.ExceptHandler (some (.Name x np)) none [.Return (some (.Constant (.str ret) j p5)) p6] p7 :: hds) (cls_of ((c, some ret) :: l)) :=
  .plain hc (fun a oe cls d pn _ _ => pss_one (ps_ret pe_str)) r
theorem hn_not {Z : Cx} {x : Str} {c : Value} {en : Option Str} {np p7 : Pos} {sts : List Stmt} {hds : List ExceptHandler} {l : List (Value × Option Str)} (hc : Names Z x c) (r : ClOk Z hds (cls_of l)) :
    ClOk Z (.ExceptHandler (some (.Name x np)) en sts p7 :: hds) (cls_of ((c, none) :: l)) := .never hc r
theorem cl_hands {K : PySem.W.Frag} {D : Ends} {Q : VK} (hQ : ∀ v H, Q v H → D.rt v H) {σ : L2.St} : ∀ (l : List (Value × Option Str)) (cls : Value) (d : Option Addr) (H : Hp), wHn K Q l cls d H → wCl K D (cls_of l) cls d σ H
  | [], _, _, _, h => h
  | (c, o) :: r, cls, d, H, ⟨b, h1, h2, h3⟩ => ⟨b, h1, fun e => (h2 e).elim fun w z => ⟨tStr w, (by rw [z.1]; rfl), fun _ _ => hQ _ _ z.2⟩, fun e => cl_hands hQ r cls d H (h3 e)⟩
/-- try: a() / except ..: return .. / return dflt -/
theorem told_cl {X : Cx} {Ng : List Str} {x a q dflt : Str} {sg : Scope} {g : Addr} {cdg : Value} {h0 : ExceptHandler} {hds : List ExceptHandler} {l : List (Value × Option Str)} {j : Nat} {p1 p2 p3 p5 p6 p8 : Pos}
    (all : ∀ (s : Shared) (H : Hp), ClOk (cxOf C8.CX0 X.prog X.w X.K X.mg X.base Ng x sg g cdg X.A X.stack s H C8.E0).nox (h0 :: hds) (cls_of l))
    (hs0 : ∀ f : Addr, (L2.start Ng [V.ref f])[0]? = some (some (V.ref f)))
    (hsw : ∀ env : Env, swapsWith (.Call (.Name a p1) [] [] p2) none p3.line env = pure false := by intro _; rfl) :
    LamX.GivesTo X Ng x sg g cdg [.Try [.Expr (.Call (.Name a p1) [] [] p2) p3] (h0 :: hds) [] [] p8, .Return (some (.Constant (.str dflt) j p5)) p6] a q (TTn X.K l dflt) := fun f c' s H Q tl act hc h =>
  ⟨_, pss_cons (ps_try_cl (X := (cxOf C8.CX0 X.prog X.w X.K X.mg X.base Ng x sg g cdg X.A X.stack s H C8.E0).nox)
      (tb := fun W D σ H => ∃ Ech : XK, (∀ cls d σ' H', Ech cls d H' → W cls d σ' H') ∧ σ[0]? = some (some (.ref f)) ∧ H c' = some (LamX.CodeO c' q) ∧ tl Ech H (fun _ H' => D.nx σ H'))
      rfl rfl (fun W pn xe tk _ => ⟨fun pins s' σ H' D I ⟨Ech, hW, h1, h2, h3⟩ => (pss_one (ps_expr (pos := p3) (act W pn xe Ech p1 p2 tk hW) (hsw _))).run pins s' σ H' D I ⟨h1, h2, h3⟩⟩) (all s H)) (pss_one (ps_ret pe_str)),
    wHn X.K Q l, fun cls d σ' H' z => cl_hands (fun _ _ z => z) l cls d H' z, hs0 f, hc, h⟩
def pickN (mt : Str → Str → Option Bool) (c : Str) : List (Str × Option Str) → Option Str
  | [] => none
  | (h, o) :: rest => (mt c h).bind fun b => cond b o (pickN mt c rest)
def fToldN (mt : Str → Str → Option Bool) (hands : List (Str × Option Str)) (dflt : Str) (fr : DE → Option (Res × DE)) : M := fun δ => (fr δ).bind fun p => match p.1 with
  | .ret _ => some (.str dflt, p.2)
  | .exc c _ => (pickN mt c hands).map fun r => (.str r, p.2)
def hvN (mg : Str → Option Value) (hands : List (Str × Option Str)) : List (Value × Option Str) := hands.map fun p => ((mg p.1).getD .none, p.2)
def KnownN (mg : Str → Option Value) : List (Str × Option Str) → Prop
  | [] => True
  | p :: r => (∃ c, mg p.1 = some c) ∧ KnownN mg r
theorem pick_n {K : PySem.W.Frag} {mg : Str → Option Value} {mt : Str → Str → Option Bool} {Q : VK} {c ret : Str} {cv : Value} {dd : Option Addr} {H : Hp} (M0 : MtOk K mg mt) (hc : mg c = some cv) (hq : Q (.str ret) H) :
    ∀ (hands : List (Str × Option Str)), KnownN mg hands → pickN mt c hands = some ret → wHn K Q (hvN mg hands) cv dd H
  | [], _, h => by cases h
  | (h, o) :: r, ⟨z1, z2⟩, e => by
    rw [pickN, Option.bind_eq_some_iff] at e
    obtain ⟨b, e1, e2⟩ := e
    obtain ⟨_, C, k1, k2, k3⟩ := M0.ok _ _ _ e1
    rw [hc] at k1
    cases k1
    refine ⟨b, (by rw [k2]; exact k3), fun z => ?_, fun z => ?_⟩ <;> subst z
    · exact ⟨ret, e2, hq⟩
    · exact pick_n M0 hc hq r z2 e2
variable [TabSet]
theorem e_lamN {X : Cx} {F : Fr} {x a q dflt : Str} {st : Stmt} {c P : Addr} {k : Nat} {Ng : List Str} {params : Arguments} {body : Expr} {scope : Scope} {p lpos pos : Pos} {fr : DE → Option (Res × DE)} {mt : Str → Str → Option Bool} {hands : List (Str × Option Str)}
    (t0 : tabs F.S0 F.H0) (M0 : MtOk X.K X.mg mt) (KN : KnownN X.mg hands) (FA : FunAt X.K X.mg x st [a]) (Sg : FnScope Ng [a] (defScope st))
    (hG : ∀ g cdv, LamX.GivesTo X Ng x (defScope st) g cdv (defBody st) a q (TTn X.K (hvN X.mg hands) dflt)) (LA : LamAt X.base X.mg c P q) (hr : Room (k + 2) X.A)
    (hbody : ∀ (A : Around) (outer : List Env) (s : Shared) (H : Hp) (E : XK) (f c' : Addr), Room k (A.deeper (LamX.lamEnv X scope s.heap.objs.size f c')) → PE (LamX.lamCx X A outer s H E scope f c') body (SR X.K X.mg F E fr))
    (hq : X.env.qual ++ "<lambda>" = q := by rfl) (hcode : X.env.code = .ref c := by rfl) (hg : Gl X x := by rfl) (hNg : Ng[0]? = some a := by rfl) (hva : Vis (defScope st) a := by first | exact Or.inl rfl | exact Or.inr (Or.inl rfl) | exact Or.inr (Or.inr rfl))
    (L : LamX.LamS X.env.scope scope := by exact LamX.lamS_by (by rfl)) (hdef : defaultsOf params X.env = ([], []) := by rfl)
    (hbind : ∀ (q : Str) (cl : List (Str × Addr)) (pm cv ctv : Value), bindArgs (PySem.W.kla_fn "<lambda>" q params body scope cl pm cv ctv) ⟨[], []⟩ = pure [] := by intros; rfl)
    (hdb : (x == ("__debug__" : Str)) = false := by decide) (hd : (a == ("__debug__" : Str)) = false := by decide) (hcd : (a == ("__classdict__" : Str)) = false := by decide) :
    PE X (.Call (.Name x p) [.Lambda params body scope lpos] [] pos) (SE X.K F (fToldN mt hands dflt fr)) := by
  refine pe_of fun S δ d δ' σ H Q R hf qq => ⟨_, pe_told FA hg Sg hNg hva hG hq LA.tb hcode LA.mem LA.uq hr L hdef hbind hbody hdb hd hcd, (R.tb0 t0).1, fun H1 eN t1 dm => ?_⟩
  obtain ⟨R1, s1⟩ := R.tabled t0 eN t1 dm
  rw [fToldN, Option.bind_eq_some_iff] at hf
  obtain ⟨⟨r, δ1⟩, h1, h2⟩ := hf
  cases r with
  | ret d0 =>
    cases h2
    exact ⟨S, δ, _, _, R1, h1, fun v S2 H2 s2 R2 _ => qq _ S2 H2 (s1.trans s2) R2 (.str dflt)⟩
  | exc c0 p0 =>
    obtain ⟨w, h3, h4⟩ := Option.map_eq_some_iff.mp h2
    cases h4
    exact ⟨S, δ, _, _, R1, h1, fun S2 H2 cv dd s2 R2 hc => pick_n M0 hc (qq _ S2 H2 (s1.trans s2) R2 (.str w)) hands KN h3⟩
omit [TabSet] in
/-- the word of an error -/
def toldKN (mt : Str → Str → Option Bool) (hands : List (Str × Option Str)) (dflt : Str) (Q : D × DE → Prop) : Res × DE → Prop
  | (.ret _, δ) => Q (.str dflt, δ)
  | (.exc c _, δ) => Wp (pickN mt c hands) fun r => Q (.str r, δ)
omit [TabSet] in
@[simp] theorem toldKN_r {mt : Str → Str → Option Bool} {hands : List (Str × Option Str)} {dflt : Str} {d : D} {Q : D × DE → Prop} {δ : DE} : toldKN mt hands dflt Q (.ret d, δ) ↔ Q (.str dflt, δ) := Iff.rfl
omit [TabSet] in
@[simp] theorem toldKN_e {mt : Str → Str → Option Bool} {hands : List (Str × Option Str)} {dflt : Str} {c p} {Q : D × DE → Prop} {δ : DE} : toldKN mt hands dflt Q (.exc c p, δ) ↔ Wp (pickN mt c hands) fun r => Q (.str r, δ) := Iff.rfl
omit [TabSet] in
@[simp] theorem wp_fToldN {mt : Str → Str → Option Bool} {hands : List (Str × Option Str)} {dflt : Str} {ff : DE → Option (Res × DE)} {Q : D × DE → Prop} {δ : DE} : Wp (fToldN mt hands dflt ff δ) Q ↔ Wp (ff δ) (toldKN mt hands dflt Q) := by
  unfold fToldN
  rcases ff δ with _ | ⟨r, δ1⟩
  · simp
  cases r <;> simp [toldKN]
end Sd

/-! Every second item of a list. -/
namespace Sd
open PySem PySem.Spec PyProof.Rows L2
def evens {α : Type} : List α → List α
  | a :: _ :: r => a :: evens r
  | l => l
theorem evens_range {α : Type} : ∀ (l : List α), (List.range ((l.length + 1) / 2)).filterMap (fun k => l[2 * k]?) = evens l
  | [] => by simp [evens]
  | [a] => by simp [evens]
  | a :: b :: r => by
    have e : ((a :: b :: r).length + 1) / 2 = (r.length + 1) / 2 + 1 := by simp only [List.length_cons]; omega
    rw [e, List.range_succ_eq_map, List.filterMap_cons, List.filterMap_map]
    show a :: _ = a :: evens r
    rw [← evens_range r]
    congr 1
theorem evens_pick (xs : Array Value) : slicePick xs none none (some 2) = (evens xs.toList).toArray := by
  unfold slicePick
  congr 1
  have e1 : sliceRange (sliceBounds none none (some 2) xs.size).1 (sliceBounds none none (some 2) xs.size).2.1 (sliceBounds none none (some 2) xs.size).2.2 = (List.range ((xs.size + 1) / 2)).map fun k => 2 * k := by
    show sliceRange 0 (xs.size : Int) 2 = _
    have c : (if (2 : Int) > 0 then (if (0 : Int) < (xs.size : Int) then ((xs.size : Int) - 0 + 2 - 1) / 2 else 0) else (if (0 : Int) > (xs.size : Int) then (0 - (xs.size : Int) - 2 - 1) / (-2) else 0)).toNat = (xs.size + 1) / 2 := by
      rw [if_pos (by decide)]
      split <;> omega
    unfold sliceRange
    dsimp only
    rw [c]
    refine List.map_congr_left fun k _ => ?_
    omega
  rw [e1, List.filterMap_map, ← evens_range, Array.length_toList]
  exact congrArg (fun g => List.filterMap g (List.range ((xs.size + 1) / 2))) (funext fun k => (Array.getElem?_toList ..).symm)
theorem vals_evens : ∀ {vs : List V} {us : List Value}, Vals vs us → Vals (evens vs) (evens us)
  | _, _, .nil => .nil
  | _, _, .cons a .nil => .cons a .nil
  | _, _, .cons a (.cons _ t) => .cons a (vals_evens t)
theorem dqa_evens {H : Hp} : ∀ {vs : List V} {ds : List D}, DqAll H vs ds → DqAll H (evens vs) (evens ds)
  | _, _, .nil => .nil
  | _, _, .cons a .nil => .cons a .nil
  | _, _, .cons a (.cons _ t) => .cons a (dqa_evens t)
theorem evens_len {α : Type} : ∀ (l : List α), (evens l).length ≤ l.length
  | [] => Nat.le_refl _
  | [a] => Nat.le_refl _
  | a :: b :: r => by have := evens_len r; simp only [evens, List.length_cons]; omega
section
variable {X : Cx} {F : Fr} {e : Expr} {f : M}
theorem pe_evL {te : TE} {k : Nat} {p1 p3 pos : Pos} (he : PE X e te) : PE X (.Subscript e (.Slice none none (some (.Constant (.int 2) k p1)) p3) pos)
    (fun σ H Q => te σ H fun x H1 => ∃ a xs, x = .ref a ∧ SqL X.K H1 a xs ∧ ∀ p, H1 p = none → Q (.ref p) (upd H1 p (.lst (evens xs)))) := by
  constructor
  intro pins s σ H Q I h
  refine Subscript_ (thn (he.run pins s σ H _ I h) fun v s1 ⟨x, H1, I1, r1, a, xs, ex, hx, q⟩ => ?_)
  subst ex
  cases r1
  have st : PO X (some (.Constant (.int 2) k p1)) (tPart (tC (.int 2))) := po_some pe_int
  refine wpAny_Slice (thn (po_none.run pins s1 σ H1 (fun o H2 => o = none ∧ H2 = H1) I1 ⟨rfl, rfl⟩) fun vl s2 ⟨l, H2, I2, pl, el, e2⟩ => ?_)
  subst el e2
  refine thn (po_none.run pins s2 σ H2 (fun o H3 => o = none ∧ H3 = H2) I2 ⟨rfl, rfl⟩) fun vu s3 ⟨u, H3, I3, pu, eu, e3⟩ => ?_
  subst eu e3
  refine thn (st.run pins s3 σ H3 (fun o H4 => o = some 2 ∧ H4 = H3) I3 ⟨2, rfl, rfl, rfl⟩) fun vs s4 ⟨o, H4, I4, ps, eo, e4⟩ => ?_
  subst eo e4
  have I5 : Inv X pins σ H4 { s4 with heap := s4.heap.push { cls := .type "slice", data := .fields #[vl, vu, vs] } } := I4.kept (t' := s4.toks) fun b ob q => Heap.get?_push_of_some _ q
  obtain ⟨its, r, ht, hz⟩ := I5.list hx
  have len := r.length
  show wpAny (model X.prog X.w) X.A (subscriptTail e (.Slice none none (some (.Constant (.int 2) k p1)) p3) (.ref a) (.ref s4.heap.objs.size)) (EP X pins σ Q) X.xe { s4 with heap := s4.heap.push { cls := .type "slice", data := .fields #[vl, vu, vs] } }
  refine tail_any (ops := [.ref a, .ref s4.heap.objs.size]) ht.isList.typeIs (PySem.slot_list_getitem.lookup) (wpAny_getItem_list_slice ht.isList (Heap.IsSliceOf.new _ vl vu vs) pl pu ps (by decide) ?_ (by rw [List.size_toArray]; omega)) (by with_unfolding_all rfl)
  rw [evens_pick]
  exact ⟨.ref _, _, I5.laid (t' := s4.toks) (o := .lst (evens xs)) (fun b ob q => Heap.get?_push_of_some _ q) (Nat.le_refl _) ⟨Nat.le_trans (evens_len _) hz, _, 0, vals_evens r, Heap.get?_push_size _ rfl⟩, rfl, q _ (I5.hok.fresh (Nat.le_refl _))⟩
/-- xs[::2], xs a list -/
def lEven (f : M) : MA := fun δ => match f δ with
  | some (.list ds, δ') => some (evens ds, δ')
  | _ => none
variable [TabSet]
theorem f_even {k : Nat} {p1 p3 pos : Pos} (ha : PE X e (SX X.K F f)) : PE X (.Subscript e (.Slice none none (some (.Constant (.int 2) k p1)) p3) pos) (SF X.K F (lEven f)) := by
  refine pf_of fun S δ ds δ' σ H Q R hf q => ⟨_, pe_evL ha, ?_⟩
  unfold lEven at hf
  split at hf
  · rename_i zs δ1 h1
    cases hf
    refine ⟨S, δ, _, _, R, h1, fun v S1 H1 s1 R1 d1 => ?_⟩
    obtain ⟨p1, v1, rfl, e1, d1⟩ := d1
    refine ⟨p1, v1, rfl, SqL.of e1, fun p hp => ?_⟩
    obtain ⟨R4, s4, n4⟩ := lay_fresh (o := .lst (evens v1)) R1 hp
    refine q p _ S1 _ (s1.trans s4) R4 ?_ n4 upd_same (dqa_evens d1)
    cases hz : H p with
    | none => rfl
    | some o =>
      obtain ⟨o', q'⟩ := s1.dom p o hz
      rw [hp] at q'; cases q'
  · cases hf
omit [TabSet] in
@[simp] theorem wp_lEven {δ : DE} {Q : List D × DE → Prop} : Wp (lEven f δ) Q ↔ Wp (f δ) fun p => ∃ ds, p.1 = .list ds ∧ Q (evens ds, p.2) := by
  unfold lEven
  rcases f δ with _ | ⟨d, δ1⟩
  · simp
  cases d <;> simp
end
/-! ### three names at once -/
section
variable {X : Cx} {F : Fr} {W : WX} {a b c : Expr} {x y z : Str} {px py pz pt pos : Pos} {kt k2 pt2} {fa ff : MA} {g h : M} {i j l : Nat}
def sPar3 (i j l : Nat) (fa : MA) : MS := fun δ => match fa δ with
  | some ([d, d', d2], δ1) => if free0 i δ1 = true ∧ free0 j δ1 = true ∧ free0 l δ1 = true then some (.nx (((δ1.set i (.sh d)).set j (.sh d')).set l (.sh d2))) else none
  | _ => none
def sPar3O (i j l : Nat) (ff : MA) (g h : M) : MS := fun δ => (ff δ).bind fun p => (g p.2).bind fun q => (h q.2).bind fun r =>
  if free0 i r.2 = true ∧ free0 j r.2 = true ∧ free0 l r.2 = true ∧ i ≠ j ∧ i ≠ l then some (.nx (((r.2.set i (.ow p.1)).set j (.sh q.1)).set l (.sh r.1))) else none
variable [TabSet]
theorem s_par3 (hc : X.calm = true) (hN : X.N.Nodup) (ha : PA X [a, b, c] (SA X.K F fa)) (hw : swappedStores [.Tuple [.Name x px, .Name y py, .Name z pz] kt pt] (.Tuple [a, b, c] k2 pt2) X.env = pure (some [x, y, z]))
    (hi : X.N[i]? = some x := by rfl) (hj : X.N[j]? = some y := by rfl) (hl : X.N[l]? = some z := by rfl) (hij : i ≠ j := by decide) (hil : i ≠ l := by decide) (hjl : j ≠ l := by decide)
    (hx : X.env.scope.names.lookup x = some .local := by rfl) (hy : X.env.scope.names.lookup y = some .local := by rfl) (hz : X.env.scope.names.lookup z = some .local := by rfl)
    (hs : swapsWithSole [.Tuple [.Name x px, .Name y py, .Name z pz] kt pt] (.Tuple [a, b, c] k2 pt2) pos.line X.env = pure false := by rfl) :
    PS X (.Assign [.Tuple [.Name x px, .Name y py, .Name z pz] kt pt] (.Tuple [a, b, c] k2 pt2) pos) (SS X.K X.mg F W (sPar3 i j l fa)) := ps_of (ps_par3 hc hN hi hj hl hij hil hjl hx hy hz ha hw hs) fun Z σ H hw => by
  obtain ⟨S, δ, o, R, hf, q⟩ := hw
  unfold sPar3 at hf
  split at hf
  · rename_i d d' d2 δ1 h1
    split at hf
    · rename_i h0
      cases hf
      refine ⟨S, δ, _, _, R, h1, fun vs S1 H1 s1 R1 d1 => ?_⟩
      obtain _ | ⟨e1, _ | ⟨e2, _ | ⟨e3, t⟩⟩⟩ := d1
      cases t
      exact ⟨_, _, _, rfl, q _ S1 H1 s1.s (((R1.set_sh e1 i (free0_of h0.1)).set_sh e2 j (free0_of (free0_set h0.2.1))).set_sh e3 l (free0_of (free0_set (free0_set h0.2.2))))⟩
    · cases hf
  · cases hf
theorem s_par3O (hc : X.calm = true) (hN : X.N.Nodup) (ha : PE X a (SF X.K F ff)) (hb : PE X b (SE X.K F g)) (hcc : PE X c (SE X.K F h)) (hw : swappedStores [.Tuple [.Name x px, .Name y py, .Name z pz] kt pt] (.Tuple [a, b, c] k2 pt2) X.env = pure (some [x, y, z]))
    (hi : X.N[i]? = some x := by rfl) (hj : X.N[j]? = some y := by rfl) (hl : X.N[l]? = some z := by rfl) (hij : i ≠ j := by decide) (hil : i ≠ l := by decide) (hjl : j ≠ l := by decide)
    (he : starEach (a :: [b, c]) X.env = (false, eval a X.env) :: starEach [b, c] X.env := by rfl) (he2 : starEach (b :: [c]) X.env = (false, eval b X.env) :: starEach [c] X.env := by rfl) (he3 : starEach (c :: []) X.env = (false, eval c X.env) :: starEach [] X.env := by rfl)
    (hx : X.env.scope.names.lookup x = some .local := by rfl) (hy : X.env.scope.names.lookup y = some .local := by rfl) (hz : X.env.scope.names.lookup z = some .local := by rfl)
    (hs : swapsWithSole [.Tuple [.Name x px, .Name y py, .Name z pz] kt pt] (.Tuple [a, b, c] k2 pt2) pos.line X.env = pure false := by rfl) :
    PS X (.Assign [.Tuple [.Name x px, .Name y py, .Name z pz] kt pt] (.Tuple [a, b, c] k2 pt2) pos) (SS X.K X.mg F W (sPar3O i j l ff g h)) :=
  ps_of (ps_par3 hc hN hi hj hl hij hil hjl hx hy hz (pa_cons ha (pa_cons hb (pa_cons hcc pa_nil he3) he2) he) hw hs) fun Z σ H hw => by
  obtain ⟨S, δ, o, R, hf, q⟩ := hw
  rw [sPar3O, Option.bind_eq_some_iff] at hf
  obtain ⟨⟨xs, δ1⟩, h1, hf⟩ := hf
  rw [Option.bind_eq_some_iff] at hf
  obtain ⟨⟨d, δ2⟩, h2, hf⟩ := hf
  rw [Option.bind_eq_some_iff] at hf
  obtain ⟨⟨d', δ3⟩, h3, hf⟩ := hf
  dsimp only at h1 h2 h3 hf
  split at hf
  · rename_i h0
    cases hf
    refine ⟨S, δ, _, _, R, h1, fun a0 vs S1 H1 s1 R1 n0 n1 e1 d1 => ⟨S1, δ1, d, δ2, R1, h2, fun v S2 H2 s2 R2 d2 => ⟨S2, δ2, d', δ3, R2, h3, fun u S3 H3 s3 R3 d3 => ?_⟩⟩⟩
    obtain ⟨z1, z2, z3⟩ := own_new R s1 n0
    have n2 : S2 a0 = none := (s2.out _ _ e1).trans n1
    have e2 : H2 a0 = some (.lst vs) := s2.keep _ _ e1 nt_lst z3
    have z4 : ¬ Own σ δ2 a0 := fun o => z3 (s2.own o)
    have n3 : S3 a0 = none := (s3.out _ _ e2).trans n2
    have e3 : H3 a0 = some (.lst vs) := s3.keep _ _ e2 nt_lst z4
    have z5 : ¬ Own σ δ3 a0 := fun o => z4 (s3.own o)
    have R4 := R3.set_ow n3 (.inl z1) e3 (ob_lst (dqa_ext s3.s (dqa_ext s2.s d1))) z5 i (free0_of h0.1)
    refine ⟨_, _, _, rfl, q _ S3 H3 ((s1.s.trans s2.s).trans s3.s) ((R4.set_sh (dq_ext s3.s d2) j fun e xs' w => ?_).set_sh d3 l fun e xs' w => ?_)⟩
    · subst e
      have h9 := free0_of h0.2.1 rfl
      rw [List.getElem?_set_ne h0.2.2.2.1] at w
      exact h9 _ w
    · subst e
      have h9 := free0_of h0.2.2.1 rfl
      have w2 := (set_ow w).1
      rw [List.getElem?_set_ne h0.2.2.2.2] at w2
      exact h9 _ w2
  · cases hf
omit [TabSet] in
def triK (f : D → D → D → Prop) : List D → Prop
  | [u, v, w] => f u v w
  | _ => False
omit [TabSet] in
@[simp] theorem triK_3 {f : D → D → D → Prop} {u v w : D} : triK f [u, v, w] ↔ f u v w := Iff.rfl
omit [TabSet] in
@[simp] theorem wp_sPar3 {δ : DE} {Q : Out → Prop} : Wp (sPar3 i j l fa δ) Q ↔ Wp (fa δ) fun p => triK (fun d d' d2 => (free0 i p.2 = true ∧ free0 j p.2 = true ∧ free0 l p.2 = true) ∧ Q (.nx (((p.2.set i (.sh d)).set j (.sh d')).set l (.sh d2)))) p.1 := by
  unfold sPar3
  rcases fa δ with _ | ⟨x, δ1⟩
  · simp
  match x with
  | [] => simp [triK]
  | [_] => simp [triK]
  | [_, _] => simp [triK]
  | [u, v, w] => simp [triK]
  | _ :: _ :: _ :: _ :: _ => simp [triK]
omit [TabSet] in
@[simp] theorem wp_sPar3O {δ : DE} {Q : Out → Prop} : Wp (sPar3O i j l ff g h δ) Q ↔ Wp (ff δ) fun p => Wp (g p.2) fun q => Wp (h q.2) fun r => (free0 i r.2 = true ∧ free0 j r.2 = true ∧ free0 l r.2 = true ∧ i ≠ j ∧ i ≠ l) ∧ Q (.nx (((r.2.set i (.ow p.1)).set j (.sh q.1)).set l (.sh r.1))) := by
  unfold sPar3O
  rcases ff δ with _ | ⟨x, δ1⟩ <;> simp
  rcases g δ1 with _ | ⟨y, δ2⟩ <;> simp
  rcases h δ2 with _ | ⟨y, δ2⟩ <;> simp
end
end Sd

/-! An own list or dict goes over to another name. -/
namespace Sd
open PySem PySem.Spec PyProof.Rows L2
variable [TabSet]
section
variable {K : PySem.W.Frag} {F : Fr} {S H : Hp} {σ : L2.St} {δ : DE}
omit [TabSet] in
theorem get_set_no {j k : Nat} {s : Slot} (h : (δ.set j .no)[k]? = some s) : (k = j ∧ s = .no) ∨ (k ≠ j ∧ δ[k]? = some s) := by
  by_cases e : k = j
  · subst e
    rw [List.getElem?_set_self (by have := (List.getElem?_eq_some_iff.mp h).1; rwa [List.length_set] at this)] at h
    exact .inl ⟨rfl, (Option.some.inj h).symm⟩
  · rw [List.getElem?_set_ne (fun z => e z.symm)] at h
    exact .inr ⟨e, h⟩
omit [TabSet] in
theorem ow_set_no {j k : Nat} {xs : Ob} (h : (δ.set j .no)[k]? = some (.ow xs)) : k ≠ j ∧ δ[k]? = some (.ow xs) := by
  rcases get_set_no h with ⟨_, h⟩ | h
  · cases h
  · exact h
theorem RSt.drop (R : RSt K F S H σ δ) (j : Nat) (h0 : j ≠ 0) : RSt K F S H σ (δ.set j .no) where
  sub := R.sub
  base := R.base
  dom0 := R.dom0
  tb0 := R.tb0
  s0 := R.s0
  out := R.out
  iop := R.iop
  len := by rw [List.length_set]; exact R.len
  slot := fun k x s h1 h2 => by
    rcases get_set_no h2 with ⟨_, rfl⟩ | ⟨_, h⟩
    · trivial
    · exact R.slot k x s h1 h
  sep := fun k l a xs ys h1 h2 => R.sep k l a xs ys (ow_set_no h1).2 (ow_set_no h2).2
  pin := fun a h => by
    obtain ⟨h1, xs, h2⟩ := R.pin a h
    exact ⟨h1, xs, by rw [List.getElem?_set_ne h0]; exact h2⟩
theorem RSt.mov (R : RSt K F S H σ δ) {i j : Nat} {xs : Ob} (hd : δ[j]? = some (.ow xs)) (hj : j ≠ 0) (hi : i ≠ 0) : ∃ a, σ[j]? = some (some (.ref a)) ∧ RSt K F S H (σ.set i (some (.ref a))) ((δ.set j .no).set i (.ow xs)) := by
  have hl : j < σ.length := by rw [R.len]; exact (List.getElem?_eq_some_iff.mp hd).1
  obtain ⟨a, o, e, e1, e2, e3, e4⟩ := R.slot j _ _ (List.getElem?_eq_getElem hl) hd
  have ej : σ[j]? = some (some (.ref a)) := by rw [List.getElem?_eq_getElem hl, e]
  refine ⟨a, ej, (R.drop j hj).set_ow e1 e2 e3 e4 ?_ i fun z => absurd z hi⟩
  rintro ⟨k, ys, h1, h2⟩
  obtain ⟨n, h3⟩ := ow_set_no h1
  exact n (R.sep k j a ys xs h3 hd h2 ej)
end
variable {X : Cx} {F : Fr} {W : WX} {x y : Str} {pos : Pos}
omit [TabSet] in
/-- x = y, y an own list or dict, which goes over to x -/
def sMov (i j : Nat) : MS := fun δ => match δ[j]? with
  | some (.ow xs) => if i ≠ 0 ∧ j ≠ 0 then some (.nx ((δ.set j .no).set i (.ow xs))) else none
  | _ => none
theorem s_mov {i j : Nat} {p1 p2 : Pos} (hN : X.N.Nodup) (hi : X.N[i]? = some x := by rfl) (hj : X.N[j]? = some y := by rfl) (hx : Loc X.env.scope x := by first | exact Or.inl rfl | exact Or.inr rfl) (hy : Vis X.env.scope y := by first | exact Or.inl rfl | exact Or.inr (Or.inl rfl) | exact Or.inr (Or.inr rfl)) (hd : (y == ("__debug__" : Str)) = false := by decide) (hcd : (y == ("__classdict__" : Str)) = false := by decide)
    (hs : swapsWith (.Name y p2) (some (.Name x p1)) pos.line X.env = pure false := by rfl) (hf : X.fn x = true ∨ X.env.scope.names.lookup x = some .local := by first | exact .inl rfl | exact .inr rfl) :
    PS X (.Assign [.Name x p1] (.Name y p2) pos) (SS X.K X.mg F W (sMov i j)) := ps_of (ps_set hN hi hx (pe_var hj hy hd hcd) hs hf) fun Z σ H hw => by
  obtain ⟨S, δ, o, R, hf, q⟩ := hw
  unfold sMov at hf
  split at hf
  · rename_i xs e
    split at hf
    · rename_i h0
      cases hf
      obtain ⟨a, e1, R1⟩ := R.mov e h0.2 h0.1
      exact ⟨_, e1, q _ S H (Evl.Ex.refl S) R1⟩
    · cases hf
  · cases hf
omit [TabSet] in
@[simp] theorem wp_sMov {δ : DE} {i j : Nat} {Q : Out → Prop} : Wp (sMov i j δ) Q ↔ ∃ xs, δ[j]? = some (.ow xs) ∧ (i ≠ 0 ∧ j ≠ 0) ∧ Q (.nx ((δ.set j .no).set i (.ow xs))) := by
  unfold sMov
  rcases h : δ[j]? with _ | s
  · simp
  · cases s <;> simp
end Sd

/-! min and max of a list or tuple of ints; lcm; x = y for an own y. -/
namespace Sd
open PySem PySem.Spec PyProof.Rows L2
open Evl (Ex)
def minI : List Int → Int
  | [] => 0
  | a :: r => r.foldl min a
def maxI : List Int → Int
  | [] => 0
  | a :: r => r.foldl max a
theorem reads_ints {h : Heap} : ∀ (ns : List Int) (us : List Value), Vals (ns.map V.int) us → ∃ as, ReadsAll h us (ns.map PyData.int) as
  | [], _, .nil => ⟨_, .nil⟩
  | n :: r, _, .cons e t => by
    obtain ⟨as, q⟩ := reads_ints r _ t
    obtain ⟨k, rfl⟩ := e
    exact ⟨_, .cons (.int n k) q⟩
theorem alike_ints (ns : List Int) : PySem.W.AlikeAll (ns.map PyData.int) := by
  refine ⟨fun x hx y hy => ?_, fun x hx => ?_⟩
  · obtain ⟨i, _, rfl⟩ := List.mem_map.mp hx
    obtain ⟨j, _, rfl⟩ := List.mem_map.mp hy
    rfl
  · obtain ⟨i, _, rfl⟩ := List.mem_map.mp hx
    exact PyData.noConfusion
theorem depth_ints : ∀ ns : List Int, PyData.depthAll (ns.map PyData.int) ≤ 1
  | [] => by decide
  | n :: r => by
    have := depth_ints r
    show max (PyData.depth (.int n)) (PyData.depthAll (r.map PyData.int)) ≤ 1
    have : PyData.depth (.int n) ≤ 1 := by simp [PyData.depth]
    omega
theorem read_int {h : Heap} {v : Value} {i : Int} {bs : List Addr} (r : Reads h v (.int i) bs) : ∃ t, v = .int i t := by
  cases r
  exact ⟨_, rfl⟩
/-- a list or a tuple of ints -/
def SqI (K : PySem.W.Frag) (H : Hp) (a : Addr) (ns : List Int) : Prop := SqL K H a (ns.map V.int) ∨ SqT K H a (ns.map V.int)
def rExt (K : PySem.W.Frag) (o : List Int → Int) : List V → Hp → VK → Prop := fun vs H Q => ∃ (a : Addr) (ns : List Int), vs = [.ref a] ∧ SqI K H a ns ∧ ns ≠ [] ∧ Q (.int (o ns)) H
section
variable {X : Cx}
theorem cr_minI {n : Nat} (hr : Room n X.A) (hc : X.calm = true) : CallR X (.builtin "min") (rExt X.K minI) := by
  rintro pins s σ H vs us Q I r ⟨a, ns, rfl, hs, hne, q⟩
  rw [Vals.ref1 r]
  obtain ⟨m, ms, rfl⟩ := List.exists_cons_of_ne_nil hne
  have hu : X.A.units + 1 + PyData.depthAll ((m :: ms).map PyData.int) < cLine := by
    have := depth_ints (m :: ms)
    have := hr.un
    omega
  have al := alike_ints (m :: ms)
  rcases hs with hs | hs
  · obtain ⟨its, rv, hl, _⟩ := I.list hs
    obtain ⟨as, rd⟩ := reads_ints (h := s.heap) _ _ rv
    refine PySem.W.min_list_data (I.ok.hd hc) hl.isList rd al hu fun i v h' tk bs hv rr hk => ?_
    rw [PySem.W.minD_ints] at rr
    obtain ⟨t, rfl⟩ := read_int rr
    exact ⟨.int _, H, I.kept hk, ⟨t, rfl⟩, q⟩
  · obtain ⟨its, rv, hl, _⟩ := I.tuple hs
    obtain ⟨as, rd⟩ := reads_ints (h := s.heap) _ _ rv
    refine PySem.W.min_tuple_data (I.ok.hd hc) hl rd al hu fun i v h' tk bs hv rr hk => ?_
    rw [PySem.W.minD_ints] at rr
    obtain ⟨t, rfl⟩ := read_int rr
    exact ⟨.int _, H, I.kept hk, ⟨t, rfl⟩, q⟩
theorem cr_maxI {n : Nat} (hr : Room n X.A) (hc : X.calm = true) : CallR X (.builtin "max") (rExt X.K maxI) := by
  rintro pins s σ H vs us Q I r ⟨a, ns, rfl, hs, hne, q⟩
  rw [Vals.ref1 r]
  obtain ⟨m, ms, rfl⟩ := List.exists_cons_of_ne_nil hne
  have hu : X.A.units + 1 + PyData.depthAll ((m :: ms).map PyData.int) < cLine := by
    have := depth_ints (m :: ms)
    have := hr.un
    omega
  have al := alike_ints (m :: ms)
  rcases hs with hs | hs
  · obtain ⟨its, rv, hl, _⟩ := I.list hs
    obtain ⟨as, rd⟩ := reads_ints (h := s.heap) _ _ rv
    refine PySem.W.max_list_data (I.ok.hd hc) hl.isList rd al hu fun i v h' tk bs hv rr hk => ?_
    rw [PySem.W.maxD_ints] at rr
    obtain ⟨t, rfl⟩ := read_int rr
    exact ⟨.int _, H, I.kept hk, ⟨t, rfl⟩, q⟩
  · obtain ⟨its, rv, hl, _⟩ := I.tuple hs
    obtain ⟨as, rd⟩ := reads_ints (h := s.heap) _ _ rv
    refine PySem.W.max_tuple_data (I.ok.hd hc) hl rd al hu fun i v h' tk bs hv rr hk => ?_
    rw [PySem.W.maxD_ints] at rr
    obtain ⟨t, rfl⟩ := read_int rr
    exact ⟨.int _, H, I.kept hk, ⟨t, rfl⟩, q⟩
def rLcm : List V → Hp → VK → Prop := fun vs H Q => ∃ a b : Int, vs = [.int a, .int b] ∧ (small a = true ∧ small b = true) ∧ Q (.int ((Nat.lcm a.natAbs b.natAbs : Nat) : Int)) H
theorem small_64 {a : Int} (h : small a = true) : a.natAbs < 2 ^ 64 := by
  unfold small at h
  simp only [Bool.and_eq_true, decide_eq_true_eq] at h
  omega
theorem cr_lcm : CallR X (.builtin "math.lcm") rLcm := by
  rintro pins s σ H vs us Q I r ⟨a, b, rfl, hs, q⟩
  obtain ⟨t, u, rfl⟩ := Vals.int2 r
  exact PySem.W.mc_lcm (small_64 hs.1) (small_64 hs.2) fun _ => ⟨.int _, H, I.tok _, ⟨_, rfl⟩, q⟩
end
def uMin1 : D → Option D
  | .list ds | .tuple ds => (intsD ds).bind fun ns => if ns = [] then none else some (.int (minI ns))
  | _ => none
def uMax1 : D → Option D
  | .list ds | .tuple ds => (intsD ds).bind fun ns => if ns = [] then none else some (.int (maxI ns))
  | _ => none
def opLcm : D → D → Option D
  | .int a, .int b => if small a = true ∧ small b = true then some (.int ((Nat.lcm a.natAbs b.natAbs : Nat) : Int)) else none
  | _, _ => none
variable {X : Cx} {F : Fr} {W : WX} {x y : Str} {pos : Pos} {a b : Expr} {f g : M}
variable [TabSet]
theorem e_ext1 {o : List Int → Int} {u : D → Option D} {nm : Str} {id : String} {pp : Pos} (hu : ∀ d z, u d = some z → ∃ ds ns, (d = .list ds ∨ d = .tuple ds) ∧ intsD ds = some ns ∧ ns ≠ [] ∧ z = .int (o ns)) (hcr : CallR X (.builtin id) (rExt X.K o)) (hg : Gl X nm) (hm : X.mg nm = none) (hv : bootBuiltins nm = some (.builtin id)) (hnn : nm ≠ Str.ofString "__name__") (hnd : (nm == ("__debug__" : Str)) = false)
    (ha : PE X a (SX X.K F f)) (he : starEach (a :: []) X.env = (false, eval a X.env) :: starEach [] X.env) (hpl : (backTo pos (starEach [] X.env)).any (·.1) = false) :
    PE X (.Call (.Name nm pp) [a] [] pos) (SE X.K F (f1 u f)) := by
  refine e_c1 (bi := .builtin id) (fun r hr => pe_callB hr hg hm hv (pa_cons ha pa_nil he) hnn hnd he hpl) fun d z hz => ?_
  obtain ⟨ds, ns, hd, hn, hne, rfl⟩ := hu d z hz
  refine ⟨_, hcr, fun S H v Q ex d1 q => ?_⟩
  rcases hd with rfl | rfl
  · obtain ⟨p1, v1, rfl, e1, d1⟩ := d1
    exact ⟨p1, ns, rfl, .inl (by rw [← dqa_ints d1 hn]; exact SqL.of e1), hne, q _ S H (Grow.refl ex) (.int _)⟩
  · obtain ⟨p1, v1, rfl, e1, d1⟩ := dq_tup d1
    exact ⟨p1, ns, rfl, .inr (by rw [← dqa_ints d1 hn]; exact Tp.sq (Tp.ext ex e1)), hne, q _ S H (Grow.refl ex) (.int _)⟩
theorem e_min1 {n : Nat} {pp : Pos} (hr : Room n X.A) (hc : X.calm = true) (hm : X.mg "min" = none) (ha : PE X a (SX X.K F f)) (hg : Gl X "min" := by rfl) (he : starEach (a :: []) X.env = (false, eval a X.env) :: starEach [] X.env := by rfl) (hpl : (backTo pos (starEach [] X.env)).any (·.1) = false := by rfl) :
    PE X (.Call (.Name "min" pp) [a] [] pos) (SE X.K F (f1 uMin1 f)) := e_ext1 (fun d z h => by
      cases d <;> simp only [uMin1] at h <;> first | cases h | skip
      all_goals
        obtain ⟨ns, h1, h2⟩ := Option.bind_eq_some_iff.mp h
        split at h2
        · cases h2
        · rename_i hne
          cases h2
          first | exact ⟨_, ns, .inl rfl, h1, hne, rfl⟩ | exact ⟨_, ns, .inr rfl, h1, hne, rfl⟩) (cr_minI hr hc) hg hm rfl (by decide) (by decide) ha he hpl
theorem e_max1 {n : Nat} {pp : Pos} (hr : Room n X.A) (hc : X.calm = true) (hm : X.mg "max" = none) (ha : PE X a (SX X.K F f)) (hg : Gl X "max" := by rfl) (he : starEach (a :: []) X.env = (false, eval a X.env) :: starEach [] X.env := by rfl) (hpl : (backTo pos (starEach [] X.env)).any (·.1) = false := by rfl) :
    PE X (.Call (.Name "max" pp) [a] [] pos) (SE X.K F (f1 uMax1 f)) := e_ext1 (fun d z h => by
      cases d <;> simp only [uMax1] at h <;> first | cases h | skip
      all_goals
        obtain ⟨ns, h1, h2⟩ := Option.bind_eq_some_iff.mp h
        split at h2
        · cases h2
        · rename_i hne
          cases h2
          first | exact ⟨_, ns, .inl rfl, h1, hne, rfl⟩ | exact ⟨_, ns, .inr rfl, h1, hne, rfl⟩) (cr_maxI hr hc) hg hm rfl (by decide) (by decide) ha he hpl
theorem e_lcm {pp : Pos} (hm : X.mg "lcm" = some (.builtin "math.lcm")) (ha : PE X a (SE X.K F f)) (hb : PE X b (SE X.K F g)) (hg : Gl X "lcm" := by rfl) (hs : starEach [a, b] X.env = (false, eval a X.env) :: starEach [b] X.env := by rfl)
    (hpl : (backTo pos (starEach [b] X.env)).any (·.1) = false := by rfl) (nb : starEach [b] X.env = (false, eval b X.env) :: starEach [] X.env := by rfl) : PE X (.Call (.Name "lcm" pp) [a, b] [] pos) (SE X.K F (fOp opLcm f g)) := by
  refine pe_of fun S δ d δ' σ H Q R hf q => ⟨_, pe_callBfun cr_lcm hg hm (pa_cons ha (pa_cons hb pa_nil nb) hs) (by decide) hs hpl, ?_⟩
  obtain ⟨x, δ1, y, h1, h2, h3⟩ := fOp_of hf
  refine ⟨S, δ, x, δ1, R, h1, fun v S1 H1 s1 R1 d1 => ⟨S1, δ1, y, δ', R1, h2, fun w S2 H2 s2 R2 d2 => ?_⟩⟩
  cases x <;> cases y <;> simp only [opLcm] at h3 <;> first | cases h3 | skip
  split at h3
  · rename_i hsm
    cases h3
    rw [dq_int d1, dq_int d2]
    exact ⟨_, _, rfl, hsm, q _ S2 H2 (s1.trans s2) R2 (.int _)⟩
  · cases h3
omit [TabSet] in
/-- x = y, y an own list or dict that from now on stands as it is -/
def sGiv (i j : Nat) : MS := fun δ => match δ[j]? with
  | some (.ow ob) => if i ≠ 0 ∧ j ≠ 0 then some (.nx ((δ.set j (.sh (obD ob))).set i (.sh (obD ob)))) else none
  | _ => none
theorem s_giv {i j : Nat} {p1 p2 : Pos} (hN : X.N.Nodup) (hi : X.N[i]? = some x := by rfl) (hj : X.N[j]? = some y := by rfl) (hx : Loc X.env.scope x := by first | exact Or.inl rfl | exact Or.inr rfl) (hy : Vis X.env.scope y := by first | exact Or.inl rfl | exact Or.inr (Or.inl rfl) | exact Or.inr (Or.inr rfl)) (hd : (y == ("__debug__" : Str)) = false := by decide) (hcd : (y == ("__classdict__" : Str)) = false := by decide)
    (hs : swapsWith (.Name y p2) (some (.Name x p1)) pos.line X.env = pure false := by rfl) (hf : X.fn x = true ∨ X.env.scope.names.lookup x = some .local := by first | exact .inl rfl | exact .inr rfl) :
    PS X (.Assign [.Name x p1] (.Name y p2) pos) (SS X.K X.mg F W (sGiv i j)) := ps_of (ps_set hN hi hx (pe_var hj hy hd hcd) hs hf) fun Z σ H hw => by
  obtain ⟨S, δ, o, R, hf, q⟩ := hw
  unfold sGiv at hf
  split at hf
  · rename_i ob e
    split at hf
    · rename_i h0
      cases hf
      obtain ⟨a, S1, e1, ex, dq, R1⟩ := R.giveO e h0.2
      exact ⟨_, e1, q _ S1 H ex (R1.set_sh dq i fun z => absurd z h0.1)⟩
    · cases hf
  · cases hf
omit [TabSet] in
@[simp] theorem wp_sGiv {δ : DE} {i j : Nat} {Q : Out → Prop} : Wp (sGiv i j δ) Q ↔ ∃ ob, δ[j]? = some (.ow ob) ∧ (i ≠ 0 ∧ j ≠ 0) ∧ Q (.nx ((δ.set j (.sh (obD ob))).set i (.sh (obD ob)))) := by
  unfold sGiv
  rcases h : δ[j]? with _ | s
  · simp
  · cases s <;> simp
omit [TabSet] in
theorem wp_bindN {o : Option (List Int)} {g : List Int → Int} {Q : D → Prop} : Wp (o.bind fun ns => if ns = [] then none else some (PyData.int (g ns))) Q ↔ Wp o fun ns => ns ≠ [] ∧ Q (.int (g ns)) := by
  rcases o with _ | ns
  · simp
  · by_cases e : ns = [] <;> simp [e]
omit [TabSet] in
@[simp] theorem wp_uMin1L {ds : List D} {Q : D → Prop} : Wp (uMin1 (.list ds)) Q ↔ Wp (intsD ds) fun ns => ns ≠ [] ∧ Q (.int (minI ns)) := wp_bindN
omit [TabSet] in
@[simp] theorem wp_uMin1T {ds : List D} {Q : D → Prop} : Wp (uMin1 (.tuple ds)) Q ↔ Wp (intsD ds) fun ns => ns ≠ [] ∧ Q (.int (minI ns)) := wp_bindN
omit [TabSet] in
@[simp] theorem wp_uMax1L {ds : List D} {Q : D → Prop} : Wp (uMax1 (.list ds)) Q ↔ Wp (intsD ds) fun ns => ns ≠ [] ∧ Q (.int (maxI ns)) := wp_bindN
omit [TabSet] in
@[simp] theorem wp_uMax1T {ds : List D} {Q : D → Prop} : Wp (uMax1 (.tuple ds)) Q ↔ Wp (intsD ds) fun ns => ns ≠ [] ∧ Q (.int (maxI ns)) := wp_bindN
omit [TabSet] in
@[simp] theorem wp_opLcm {a b : Int} {Q : D → Prop} : Wp (opLcm (.int a) (.int b)) Q ↔ (small a = true ∧ small b = true) ∧ Q (.int ((Nat.lcm a.natAbs b.natAbs : Nat) : Int)) := by
  unfold opLcm
  by_cases e : small a = true ∧ small b = true
  · simp [e]
  · simp only [e, if_false, wp_none, false_and]
end Sd

/-! sum(xss, ys): lists put together. -/
namespace Sd
open PySem PySem.Spec PyProof.Rows L2
open Evl (Ex)
section
variable {prog : Program} {w : World} {A : Around} {E : Value → Shared → Prop} {s : Shared}
theorem add_ll {l b : Addr} {vs ws : List Value} {Q : Value → Shared → Prop} (hl : s.heap.IsList l vs.toArray) (hb : s.heap.IsList b ws.toArray) (hz : vs.length + ws.length ≤ sizeLine)
    (h : Q (.ref s.heap.objs.size) { s with heap := s.heap.push { cls := .type "list", data := .seq (vs ++ ws).toArray } }) : wpAny (model prog w) A (binaryOp .Add (.ref l) (.ref b)) Q E s := by
  obtain ⟨⟨c1, d1, a1, s1⟩, g1, k1, n1, e1⟩ := hl
  obtain ⟨⟨c2, d2, a2, s2⟩, g2, k2, n2, e2⟩ := hb
  dsimp only at k1 e1 k2 e2
  subst k1 e1 k2 e2
  have e : vs.toArray ++ ws.toArray = (vs ++ ws).toArray := by simp
  refine concat_meets ⟨_, g1, rfl⟩ ⟨_, g2, rfl⟩ noFill_list_add seq_list_add PySem.F.slot_list_add PySem.F.entry_list_add (PySem.F.args_list_add_2 _ _) (list_addW l b vs.toArray ws.toArray n1 n2 d1 d2 s1 s2 (by simpa using hz)) ⟨g1, g2, ?_⟩
  rw [e]
  exact h
theorem args_sum2 (a b : Value) : argsOk "sum" ⟨[a, b], []⟩ := by unfold argsOk; kernel_rfl
/-- the lists put together -/
def putL (xs0 : List Value) (xss : List (List Value)) (i : Nat) : List Value := xs0 ++ (xss.take i).flatten
theorem putL_next {xs0 : List Value} {xss : List (List Value)} {i : Nat} {xs : List Value} (h : xss[i]? = some xs) : putL xs0 xss (i + 1) = putL xs0 xss i ++ xs := by
  have hl := (List.getElem?_eq_some_iff.mp h).1
  unfold putL
  rw [List.take_succ, h]
  simp
theorem putL_len {xs0 : List Value} {xss : List (List Value)} (i : Nat) : (putL xs0 xss i).length ≤ xs0.length + xss.flatten.length := by
  unfold putL
  rw [List.length_append]
  have : (xss.take i).flatten.length ≤ xss.flatten.length := by
    conv => rhs; rw [← List.take_append_drop i xss]
    rw [List.flatten_append, List.length_append]
    omega
  omega
variable {R : Result → Shared → Prop} {I a : Addr} {vs : Array Value} {h0 : Heap} {xs0 : List Value} {xss : List (List Value)}
theorem sum_lists (W : WalksS prog w A.in1 I [I, a] [I] (fun x y => y = x) vs.size (fun i v => vs[i]? = some v) (fun i s' => s'.heap.IsListIter I a i ∧ s'.heap.IsList a vs))
    (hI : ∀ b o, h0.get? b = some o → b ≠ I) (hv : ∀ (i : Nat) v, vs[i]? = some v → ∃ l xs, v = .ref l ∧ h0.IsList l xs.toArray ∧ xss[i]? = some xs) (hz : xs0.length + xss.flatten.length ≤ sizeLine) {S : Addr} (hS0 : h0.get? S = none) (hSI : S ≠ I) (hSa : S ≠ a) :
    ∀ (k i : Nat) (s : Shared) (T : Addr) (c : Nat), vs.size - i = k → i ≤ vs.size → (s.heap.IsListIter I a i ∧ s.heap.IsList a vs) → (∀ b o, h0.get? b = some o → s.heap.get? b = some o) → T ≠ I → T ≠ S → s.heap.IsList T (putL xs0 xss i).toArray → (0 < i → ∃ n, s.heap.get? T = some { cls := .type "list", data := .seq (putL xs0 xss i).toArray n }) → (0 < i → h0.get? T = none) →
      s.heap.get? S = some { cls := .type "list", dict := none, data := .seq #[.ref T] c, slots := #[] } →
      (∀ (s' : Shared) (T' : Addr), (∀ b o, h0.get? b = some o → s'.heap.get? b = some o) → s'.gens = s.gens → s'.drawn = s.drawn → s'.os = s.os → s'.heap.IsList T' (putL xs0 xss vs.size).toArray → (0 < i → True) → (vs.size = 0 → T' = T) → (0 < vs.size → (∃ n, s'.heap.get? T' = some { cls := .type "list", data := .seq (putL xs0 xss vs.size).toArray n }) ∧ h0.get? T' = none) → R (.ok (.ret (.ref T'))) s') →
      codeAny (model prog w) A (.builtin "sum.loop" ⟨[.ref I, .ref S, rawInt 2, rawInt 0], []⟩) R s := by
  intro k
  induction k with
  | zero =>
    intro i s T c hk hi st keep nI nS tl tx th hS hR
    have ei : i = vs.size := by omega
    subst ei
    refine codeAny_builtin F.entry_sum_loop ?_
    rw [Around.under_plainId F.plain_sum_loop _]
    show wpAny _ A.in1 (seqItems? (.ref S) >>= _) _ _ s
    refine wpAny_bind (wpAny_seqItems hS rfl ?_)
    show wpAny _ A.in1 (tryCatch (pyNext (.ref I)) _ >>= _) _ _ s
    refine wpAny_bind (wpAny_tryCatch (W.done s _ _ st fun s' m => ?_))
    have mT : ∀ o, s.heap.get? T = some o → s'.heap.get? T = some o := fun o e => m.heap T o (by simpa using nI) e
    refine wpAny_pure (hR s' T (fun b o e => m.heap b o (by simpa using hI b o e) (keep b o e)) m.gens m.drawn m.os ?_ (fun _ => trivial) (fun _ => rfl) fun hp => ?_)
    · obtain ⟨o, e, r⟩ := tl
      exact ⟨o, mT o e, r⟩
    · obtain ⟨n, e⟩ := tx hp
      exact ⟨⟨n, mT _ e⟩, th hp⟩
  | succ k ih =>
    intro i s T c hk hi st keep nI nS tl tx th hS hR
    have lt : i < vs.size := by omega
    refine codeAny_builtin F.entry_sum_loop ?_
    rw [Around.under_plainId F.plain_sum_loop _]
    show wpAny _ A.in1 (seqItems? (.ref S) >>= _) _ _ s
    refine wpAny_bind (wpAny_seqItems hS rfl ?_)
    show wpAny _ A.in1 (tryCatch (pyNext (.ref I)) _ >>= _) _ _ s
    refine wpAny_bind (wpAny_tryCatch (W.item i s _ _ lt st fun v s1 hP st1 m => ?_))
    obtain ⟨l, xs, rfl, hl, hx⟩ := hv i v hP
    have keep1 : ∀ b o, h0.get? b = some o → s1.heap.get? b = some o := fun b o e => m.heap b o (by simpa using hI b o e) (keep b o e)
    have hl1 : s1.heap.IsList l xs.toArray := by
      obtain ⟨o, e, r⟩ := hl
      exact ⟨o, keep1 l o e, r⟩
    have tl1 : s1.heap.IsList T (putL xs0 xss i).toArray := by
      obtain ⟨o, e, r⟩ := tl
      exact ⟨o, m.heap T o (by simpa using nI) e, r⟩
    have hS1 := m.heap S _ (by simpa using hSI) hS
    have nx := putL_next (xs0 := xs0) hx
    have ln := putL_len (xs0 := xs0) (xss := xss) (i + 1)
    rw [nx, List.length_append] at ln
    show wpAny _ A.in1 ((holding [Value.ref l] (binaryOp .Add (.ref T) (.ref l))).attempt >>= _) _ _ _
    refine wpAny_bind (wpAny_attempt (wpAny_holding (add_ll tl1 hl1 (by omega) ?_)))
    rw [← nx]
    show wpAny _ A.in1 (updateSeq S (fun _ => #[.ref s1.heap.objs.size]) >>= _) _ _ _
    have hS2 : (s1.heap.push { cls := .type "list", data := .seq (putL xs0 xss (i + 1)).toArray }).get? S = some _ := Heap.get?_push_of_some _ hS1
    refine wpAny_bind (wpAny_updateSeq hS2 rfl ?_)
    have hS3 := Heap.get?_update_self (Obj.mapSeq fun _ => #[Value.ref s1.heap.objs.size]) hS2 rfl
    refine wpAny_bind (wpAny_letGo ?_)
    refine wpAny_bind (wpAny_updateSeq hS3 rfl (wpAny_pure ⟨plainId_quiet F.plain_sum_loop _, ?_⟩))
    have hS4 := Heap.get?_update_self (Obj.mapSeq fun _ => #[Value.ref s1.heap.objs.size]) hS3 rfl
    have big : S < s1.heap.objs.size := Heap.lt_size hS1
    have up : ∀ b o, b ≠ S → s1.heap.get? b = some o → (((s1.heap.push { cls := .type "list", data := .seq (putL xs0 xss (i + 1)).toArray }).update S (Obj.mapSeq fun _ => #[Value.ref s1.heap.objs.size])).update S (Obj.mapSeq fun _ => #[Value.ref s1.heap.objs.size])).get? b = some o := fun b o n e =>
      (Heap.get?_update_other _ _ (fun z : S = b => n z.symm)).trans ((Heap.get?_update_other _ _ (fun z : S = b => n z.symm)).trans (Heap.get?_push_of_some _ e))
    have nSI : S ≠ s1.heap.objs.size := Nat.ne_of_lt big
    have hT : (((s1.heap.push { cls := .type "list", data := .seq (putL xs0 xss (i + 1)).toArray }).update S (Obj.mapSeq fun _ => #[Value.ref s1.heap.objs.size])).update S (Obj.mapSeq fun _ => #[Value.ref s1.heap.objs.size])).get? s1.heap.objs.size = some { cls := .type "list", data := .seq (putL xs0 xss (i + 1)).toArray } :=
      (Heap.get?_update_other _ _ nSI).trans ((Heap.get?_update_other _ _ nSI).trans (Heap.get?_push_size _ rfl))
    have ltI : I < s1.heap.objs.size := by
      obtain ⟨⟨o, e, _⟩, _⟩ := st1
      exact Heap.lt_size e
    have h01 : h0.get? s1.heap.objs.size = none := by
      cases z : h0.get? s1.heap.objs.size with
      | none => rfl
      | some o => exact absurd (Heap.lt_size (keep1 _ o z)) (Nat.lt_irrefl _)
    refine ih (i + 1) _ s1.heap.objs.size _ (by omega) lt (W.frame _ s1 _ s1.toks st1 (Nat.le_refl _) fun b hb o e => up b o (fun z => ?_) e) (fun b o e => up b o (fun z => by rw [z, hS0] at e; cases e) (keep1 b o e)) (Nat.ne_of_gt ltI) (fun z => nSI z.symm) ⟨_, hT, rfl, _, rfl⟩ (fun _ => ⟨_, hT⟩) (fun _ => h01) hS4 fun s' T' k1 k2 k3 k4 k5 k6 k7 k8 => hR s' T' k1 (k2.trans m.gens) (k3.trans m.drawn) (k4.trans m.os) k5 (fun _ => trivial) (fun z => by omega) k8
    subst z
    rcases List.mem_cons.mp hb with z | z
    · exact hSI z
    · exact hSa (List.mem_singleton.mp z)
theorem sub_l_str : isSubtype (.type "list") (.type "str") = pure false := by kernel_rfl
theorem sub_l_bytes : isSubtype (.type "list") (.type "bytes") = pure false := by kernel_rfl
theorem sub_l_bytearray : isSubtype (.type "list") (.type "bytearray") = pure false := by kernel_rfl
/-- sum(xss, ys) -/
theorem sum_ll {b : Addr} {Q : Value → Shared → Prop} (hh : A.handled = none) (ha : s.heap.IsList a vs) (hb : s.heap.IsList b xs0.toArray) (hv : ∀ (i : Nat) v, vs[i]? = some v → ∃ l xs, v = .ref l ∧ s.heap.IsList l xs.toArray ∧ xss[i]? = some xs) (hl : vs.size = xss.length)
    (hz : xs0.length + xss.flatten.length ≤ sizeLine)
    (hQ : ∀ (s' : Shared) (T : Addr), (∀ b o, s.heap.get? b = some o → s'.heap.get? b = some o) → s'.gens = s.gens → s'.drawn = s.drawn → s'.os = s.os → (xss = [] → T = b) →
      (xss ≠ [] → (∃ n, s'.heap.get? T = some { cls := .type "list", data := .seq (xs0 ++ xss.flatten).toArray n }) ∧ s.heap.get? T = none) → Q (.ref T) s') : wpAny (model prog w) A (call (.builtin "sum") [.ref a, .ref b]) Q E s := by
  refine call_function_tree F.kind_sum F.plain_sum F.entry_sum (args_sum2 _ _) ?_
  unfold Builtin.«sum»
  simp only [List.length_cons, List.length_nil]
  rw [if_neg (by decide)]
  refine wpAny_bind (wpAny_of_eq (show Builtin.Builtins.bindParams "sum" ["start"] 0 ⟨[.ref b], []⟩ = pure [some (.ref b)] from rfl) ?_)
  refine wpAny_bind (PySem.W.iter_listW (A := A.in1) hh ha fun s2 e W st hf hI keep => ?_)
  have tb : s2.TypeIs (.ref b) "list" := by
    obtain ⟨o, g, c, _⟩ := hb
    exact ⟨o, keep b o g, c⟩
  refine wpAny_bind (wpAny_pure ?_)
  simp only [List.forIn_cons, List.forIn_nil]
  refine wpAny_bind (wpAny_bind (wpAny_bind (wpAny_isInstance (T := "list") (b := false) tb sub_l_str ?_)))
  simp only [Bool.false_eq_true, if_false]
  refine wpAny_pure (wpAny_bind (wpAny_bind (wpAny_isInstance (T := "list") (b := false) tb sub_l_bytes ?_)))
  simp only [Bool.false_eq_true, if_false]
  refine wpAny_pure (wpAny_bind (wpAny_bind (wpAny_isInstance (T := "list") (b := false) tb sub_l_bytearray ?_)))
  simp only [Bool.false_eq_true, if_false]
  refine wpAny_pure (wpAny_pure ?_)
  refine wpAny_bind (wpAny_newObj_type ?_)
  have ltb : b < s.heap.objs.size := by
    obtain ⟨o, g, _⟩ := hb
    exact Heap.lt_size g
  have lta : a < s.heap.objs.size := by
    obtain ⟨o, g, _⟩ := ha
    exact Heap.lt_size g
  have sz : s2.heap.objs.size = s.heap.objs.size + 1 := by
    subst e
    exact Heap.size_push _ _
  have noneS : s.heap.get? s2.heap.objs.size = none := by
    cases z : s.heap.get? s2.heap.objs.size with
    | none => rfl
    | some o => exact absurd (Heap.lt_size z) (Nat.not_lt.mpr (by rw [sz]; exact Nat.le_succ _))
  have up1 : s.heap.objs.size ≤ s2.heap.objs.size := by rw [sz]; exact Nat.le_succ _
  have e0 : putL xs0 xss 0 = xs0 := by simp [putL]
  have en : putL xs0 xss vs.size = xs0 ++ xss.flatten := by
    unfold putL
    rw [hl, List.take_length]
  have pk : ∀ x o, s2.heap.get? x = some o → (s2.heap.push { cls := .type "list", data := .seq #[Value.ref b] }).get? x = some o := fun x o g => Heap.get?_push_of_some _ g
  refine wpAny_pure ⟨plainId_quiet F.plain_sum_loop _, sum_lists (h0 := s.heap) (xs0 := xs0) (xss := xss) W (fun x o g z => hI x o g (List.mem_singleton.mpr z)) hv hz noneS (by rw [sz]; exact Nat.succ_ne_self _) (Nat.ne_of_gt (Nat.lt_of_lt_of_le lta up1)) vs.size 0 _ b 0 rfl (Nat.zero_le _)
    (W.frame 0 s2 _ s2.toks st (Nat.le_refl _) fun x _ o g => pk x o g) (fun x o g => pk x o (keep x o g)) (Nat.ne_of_lt ltb) (Nat.ne_of_lt (Nat.lt_of_lt_of_le ltb up1)) ?_ (fun z => absurd z (Nat.lt_irrefl 0)) (fun z => absurd z (Nat.lt_irrefl 0)) (Heap.get?_push_size _ rfl) fun s' T' k1 k2 k3 k4 k5 _ k7 k8 => ?_⟩
  · rw [e0]
    obtain ⟨o, g, r⟩ := hb
    exact ⟨o, pk b o (keep b o g), r⟩
  · subst e
    rw [en] at k8
    exact hQ s' T' k1 k2 k3 k4 (fun z => k7 (by rw [hl, z]; rfl)) fun z => k8 (by rw [hl]; exact List.length_pos_iff.mpr z)
end

abbrev IsLst (K : PySem.W.Frag) (H : Hp) (v : V) (xs : List V) : Prop := ∃ p, v = .ref p ∧ SqL K H p xs
def rSumL (K : PySem.W.Frag) : List V → Hp → VK → Prop := fun vs H Q => ∃ (a b : Addr) (us : List V) (xss : List (List V)) (ys : List V), vs = [.ref a, .ref b] ∧ SqL K H a us ∧ SqL K H b ys ∧ Paired (IsLst K H) us xss ∧ ys.length + xss.flatten.length ≤ sizeLine ∧
  (xss = [] → Q (.ref b) H) ∧ ∀ p, H p = none → Q (.ref p) (upd H p (.lst (ys ++ xss.flatten)))
section
variable {X : Cx} {pins : List (Addr × Obj)} {σ : L2.St} {H : Hp} {s : Shared}
theorem lists_of (I : Inv X pins σ H s) : ∀ {us : List V} {xss : List (List V)} {is : List Value}, Paired (IsLst X.K H) us xss → Vals us is → ∃ uss : List (List Value), uss.length = is.length ∧ xss.length = is.length ∧ Vals xss.flatten uss.flatten ∧
    ∀ (i : Nat) v, is[i]? = some v → ∃ l xs, v = .ref l ∧ s.heap.IsList l xs.toArray ∧ uss[i]? = some xs
  | _, _, _, .nil, .nil => ⟨[], rfl, rfl, .nil, fun i v h => by simp at h⟩
  | _, _, _, .cons ⟨p, e, h⟩ t, .cons r q => by
    obtain ⟨uss, l1, l2, v1, g⟩ := lists_of I t q
    obtain ⟨us, rv, hl, _⟩ := I.list h
    subst e
    cases r
    refine ⟨us :: uss, by rw [List.length_cons, List.length_cons, l1], by rw [List.length_cons, List.length_cons, l2], ?_, fun i v hv => ?_⟩
    · rw [List.flatten_cons, List.flatten_cons]
      exact rv.append v1
    · cases i with
      | zero =>
        cases hv
        exact ⟨p, us, rfl, hl.isList, rfl⟩
      | succ i => exact g i v hv
theorem cr_sumL (hc : X.calm = true) : CallR X (.builtin "sum") (rSumL X.K) := by
  rintro pins s σ H vs us Q I r ⟨a, b, es, xss, ys, rfl, ha, hb, hx, hz, q0, q⟩
  cases r with
  | cons r1 r2 =>
    cases r2 with
    | cons r2 r3 =>
      cases r3
      cases r1
      cases r2
      obtain ⟨is, rv, hl, _⟩ := I.list ha
      obtain ⟨ks, rk, hk, _⟩ := I.list hb
      obtain ⟨uss, l1, l2, v1, g⟩ := lists_of I hx rv
      have n1 := v1.length
      have n2 := rk.length
      refine sum_ll (xs0 := ks) (xss := uss) (I.ok.hd hc) hl.isList hk.isList (fun i v hv => g i v (by simpa using hv)) (by rw [List.size_toArray]; exact l1.symm) (by omega) fun s' T k1 k2 k3 k4 k5 k6 => ?_
      obtain ⟨hp, gg, d, tk, os⟩ := s'
      dsimp only at k1 k2 k3 k4 k6
      subst k2 k3 k4
      by_cases e : uss = []
      · have ex : xss = [] := List.eq_nil_of_length_eq_zero (by rw [l2, ← l1, e]; rfl)
        rw [k5 e]
        exact ⟨.ref b, H, I.kept k1, rfl, q0 ex⟩
      · obtain ⟨⟨n, k7⟩, k8⟩ := k6 e
        refine ⟨.ref T, _, I.laidN (o := .lst (ys ++ xss.flatten)) k1 k8 (HOk.gone I.hok k8) ⟨by rw [List.length_append]; exact hz, ks ++ uss.flatten, n, rk.append v1, k7⟩, rfl, q T (HOk.gone I.hok k8)⟩
end
def listsD : List D → Option (List (List D))
  | [] => some []
  | .list ds :: r => (listsD r).map (ds :: ·)
  | _ :: _ => none
def opSumL : D → D → Option D
  | .list ds, .list ys => (listsD ds).bind fun xss => if ys.length + xss.flatten.length ≤ 100000 then some (.list (ys ++ xss.flatten)) else none
  | _, _ => none
theorem lists_dq {K : PySem.W.Frag} {S H : Hp} (ex : Ex S H) : ∀ {vs : List V} {ds : List D} {dss : List (List D)}, DqAll S vs ds → listsD ds = some dss → ∃ xss : List (List V), Paired (IsLst K H) vs xss ∧ DqAll S xss.flatten dss.flatten ∧ (xss = [] → dss = [])
  | _, _, _, .nil, h => by
    cases h
    exact ⟨[], .nil, .nil, fun _ => rfl⟩
  | _, _, dss, .cons (d := d) hd t, h => by
    cases d <;> simp only [listsD] at h <;> first | cases h | skip
    obtain ⟨r, hr, rfl⟩ := Option.map_eq_some_iff.mp h
    obtain ⟨xss, p1, p2, _⟩ := lists_dq (K := K) ex t hr
    obtain ⟨a, us, rfl, e1, e2⟩ := dq_list hd
    refine ⟨us :: xss, .cons ⟨a, rfl, SqL.of (ex _ _ e1)⟩ p1, ?_, fun z => by cases z⟩
    rw [List.flatten_cons, List.flatten_cons]
    exact dqa_app e2 p2
section
variable [TabSet] {X : Cx} {F : Fr} {a b : Expr} {f g : M} {pos : Pos}
theorem e_sumL {pp : Pos} (hc : X.calm = true) (hm : X.mg "sum" = none) (ha : PE X a (SE X.K F f)) (hb : PE X b (SE X.K F g)) (hg : Gl X "sum" := by rfl) (hs : starEach [a, b] X.env = (false, eval a X.env) :: starEach [b] X.env := by rfl)
    (hpl : (backTo pos (starEach [b] X.env)).any (·.1) = false := by rfl) (nb : starEach [b] X.env = (false, eval b X.env) :: starEach [] X.env := by rfl) : PE X (.Call (.Name "sum" pp) [a, b] [] pos) (SE X.K F (fOp opSumL f g)) := by
  refine pe_of fun S δ d δ' σ H Q R hf q => ⟨_, pe_callB (cr_sumL hc) hg hm (by decide +kernel) (pa_cons ha (pa_cons hb pa_nil nb) hs) (he := hs) (hpl := hpl), ?_⟩
  obtain ⟨x, δ1, y, h1, h2, h3⟩ := fOp_of hf
  refine ⟨S, δ, x, δ1, R, h1, fun v S1 H1 s1 R1 d1 => ⟨S1, δ1, y, δ', R1, h2, fun w S2 H2 s2 R2 d2 => ?_⟩⟩
  cases x <;> cases y <;> simp only [opSumL] at h3 <;> first | cases h3 | skip
  obtain ⟨dss, h4, h5⟩ := Option.bind_eq_some_iff.mp h3
  split at h5
  · rename_i hz
    cases h5
    obtain ⟨p1, us, rfl, e1, e2⟩ := dq_list d1
    obtain ⟨p2, ys, rfl, e3, e4⟩ := dq_list d2
    have e2' := dqa_ext s2.s e2
    obtain ⟨xss, k1, k2, k3⟩ := lists_dq (K := X.K) R2.sub e2' h4
    have n1 := dqa_len k2
    have n2 := dqa_len e4
    refine ⟨p1, p2, us, xss, ys, rfl, SqL.of (R2.sub _ _ (s2.s _ _ e1)), SqL.of (R2.sub _ _ e3), k1, sz_of (by omega), fun z => ?_, fun p hp => ?_⟩
    · have := k3 z
      subst this
      rw [List.flatten_nil, List.append_nil] at q
      exact q _ S2 H2 (s1.trans s2) R2 d2
    · obtain ⟨g4, g5⟩ := grow_lst R2.sub hp (dqa_app e4 k2)
      exact q _ _ _ ((s1.trans s2).trans (Stp.grow g4)) (R2.grow g4) g5
  · cases h5
end
@[simp] theorem wp_opSumL {ds ys : List D} {Q : D → Prop} : Wp (opSumL (.list ds) (.list ys)) Q ↔ Wp (listsD ds) fun xss => ys.length + xss.flatten.length ≤ 100000 ∧ Q (.list (ys ++ xss.flatten)) := by
  show Wp ((listsD ds).bind _) Q ↔ _
  rcases listsD ds with _ | xss
  · simp
  · by_cases e : ys.length + xss.flatten.length ≤ 100000
    · simp only [Option.bind_some, e, if_true, wp_some, true_and]
    · simp only [Option.bind_some, e, if_false, wp_some, wp_none, false_and]
end Sd

/-! sorted(xs), xs a list of tuples of ints, none of them empty. -/
namespace Sd
open PySem PySem.Spec PyProof.Rows L2
open Evl (Ex)
theorem lexLt_dec : ∀ x y : List Int, HT.lexLt x y = decide (x < y)
  | [], [] => by simp [HT.lexLt]
  | [], _ :: _ => by simp [HT.lexLt]
  | _ :: _, [] => by simp [HT.lexLt]
  | a :: x, b :: y => by
    rw [HT.lexLt_cons, lexLt_dec x y]
    by_cases e : a = b
    · subst e
      simp [List.cons_lt_cons_iff]
    · rw [if_neg e]
      simp [List.cons_lt_cons_iff, e]
theorem le_tups {β : Type} (x : β → List Int) : PySem.W.dataLe false (fun b => .tuple ((x b).map .int)) = fun p q => leT (x p) (x q) := by
  funext p q
  show (!PySem.W.dataLt (.tuple ((x q).map .int)) (.tuple ((x p).map .int))) = _
  rw [PySem.W.dataLt_tuple]
  show (!PySem.W.rowLt ((x q).map .int) ((x p).map .int)) = _
  rw [PySem.W.dataLt_ints]
  unfold leT
  rw [lexLt_dec]
def rSortTn (K : PySem.W.Frag) : List V → Hp → VK → Prop := fun vs H Q => ∃ (a : Addr) (xs : List V) (k : V → List Int), vs = [V.ref a] ∧ SqL K H a xs ∧ (∀ x ∈ xs, ∃ t, x = V.ref t ∧ SqT K H t ((k x).map V.int)) ∧ (∀ x ∈ xs, k x ≠ []) ∧
  ∀ ys p, ys.Perm xs → ys.map k = srt leT (xs.map k) → H p = none → Q (.ref p) (upd H p (.lst ys))
theorem ints_reads {h : Heap} : ∀ {us : List Value} {ns : List Int}, IntsAre us ns → ∃ as, ReadsAll h us (ns.map PyData.int) as
  | _, _, .nil => ⟨_, .nil⟩
  | _, _, .cons n t r => by
    obtain ⟨as, q⟩ := ints_reads (h := h) r
    exact ⟨_, .cons (.int n t) q⟩
theorem each_self {R : Value → Value → Prop} : ∀ {vs : List Value}, (∀ v ∈ vs, R v v) → PySem.W.EachIs R vs vs
  | [], _ => .nil
  | v :: vs, h => .cons (h v (List.mem_cons_self ..)) (each_self fun u hu => h u (List.mem_cons_of_mem _ hu))
theorem each_eq : ∀ {vs us : List Value}, PySem.W.EachIs (fun a b => a = b) vs us → vs = us
  | _, _, .nil => rfl
  | _, _, .cons e t => by rw [e, each_eq t]
variable {X : Cx}
theorem cr_sortTn {n : Nat} (hr : Room n X.A) : CallR X (.builtin "sorted") (rSortTn X.K) := by
  rintro pins s σ H vs us Q I r ⟨a, xs, k, rfl, hs, hx, hk, q⟩
  obtain ⟨its, rv, hl, hz⟩ := I.list hs
  obtain ⟨u, rfl, ru⟩ := vals1 r
  obtain rfl : u = Value.ref a := ru
  obtain ⟨e1, e2⟩ := refs_back rv fun x m => by
    obtain ⟨t, e, _⟩ := hx x m
    exact ⟨t, e⟩
  have mem : ∀ v ∈ its, backV v ∈ xs := fun v hv => by
    rw [e1]
    exact List.mem_map.mpr ⟨_, hv, rfl⟩
  have rd : ∀ v ∈ its, ∃ as, Reads s.heap v (.tuple ((k (backV v)).map .int)) as := fun v hv => by
    obtain ⟨t, rfl⟩ := e2 v hv
    obtain ⟨t', e, ht⟩ := hx _ (mem _ hv)
    cases e
    obtain ⟨its2, r2, ⟨o, g, c, n, d⟩, _⟩ := I.tuple ht
    obtain ⟨as, ra⟩ := ints_reads (h := s.heap) r2.ints
    exact ⟨as, .tuple g c d ra⟩
  have hun : ∀ b ∈ its, X.A.units + 2 + PyData.depth (.tuple ((k (backV b)).map .int)) < cLine := fun b _ => by
    have := hr.un
    have z : PyData.depth (.tuple ((k (backV b)).map .int)) ≤ 1 := by
      rw [PyData.depth, PySem.W.depth_ints]
      omega
    omega
  refine PySem.W.sorted_data (enc := fun v => .tuple ((k (backV v)).map .int)) (R := fun a b => a = b) hl.isList (each_self fun _ _ => rfl) (each_self rd) (fun d hd d' hd' => ?_) (.inl fun d hd => ?_) (by rw [← rv.length]; exact hz) hun fun out lo ho => ?_
  · obtain ⟨b, _, rfl⟩ := List.mem_map.mp hd
    obtain ⟨b', _, rfl⟩ := List.mem_map.mp hd'
    show PySem.W.alikeAll _ _ = true
    exact PySem.W.alike_ints _ _
  · obtain ⟨b, hb, rfl⟩ := List.mem_map.mp hd
    obtain ⟨m, ms, e⟩ := List.exists_cons_of_ne_nil (hk _ (mem b hb))
    exact ⟨.int m, ms.map .int, by rw [e]; rfl⟩
  · have eo := each_eq ho
    rw [le_tups] at eo
    have tr : ∀ a b c : Value, leT (k (backV a)) (k (backV b)) = true → leT (k (backV b)) (k (backV c)) = true → leT (k (backV a)) (k (backV c)) = true := fun a b c => leT_tr _ _ _
    have tot : ∀ a b : Value, (leT (k (backV a)) (k (backV b)) || leT (k (backV b)) (k (backV a))) = true := fun a b => by
      rw [Bool.or_eq_true]
      exact leT_tot _ _
    have pm : out.Perm its := by
      rw [eo]
      exact List.mergeSort_perm ..
    have pw : out.Pairwise fun a b => leT (k (backV a)) (k (backV b)) = true := by
      rw [eo]
      exact List.pairwise_mergeSort tr tot its
    have h3 : ∀ u ∈ out, ∃ a, u = Value.ref a := fun u hu => e2 u (pm.mem_iff.mp hu)
    obtain ⟨ep, he'⟩ := PyProof.Rows.sortedAll_at s.heap its out.toArray
    have hp : (out.map backV).Perm xs := by
      rw [e1]
      exact pm.map backV
    have hkk : (out.map backV).map k = srt leT (xs.map k) := by
      refine srt_uniq leT_tot leT_tr leT_anti (hp.map k) ?_
      rw [List.map_map]
      exact List.pairwise_map.mpr pw
    refine ⟨.ref _, upd H (s.heap.objs.size + 1) (.lst (out.map backV)), I.laid (t' := s.toks) (fun _ _ => PyProof.Rows.sortedAll_old) (Nat.le_succ _) ⟨?_, out, ep, vals_back h3, he'⟩, rfl, q _ _ hp hkk (I.hok.fresh (Nat.le_succ _))⟩
    rw [hp.length_eq]
    exact hz
/-- sorted(xs): ints, tuples with an empty one in front, tuples of which none is empty -/
def uSort2 (d : D) : Option D := match uSorted d with
  | some r => some r
  | none => match d with
    | .list ds => (tupsD ds).bind fun nss => if nss.all (fun ns => !ns.isEmpty) = true then some (.list ((srt leT nss).map tI)) else none
    | _ => none
variable [TabSet] {F : Fr} {a : Expr} {f : M} {pos : Pos}
theorem e_sort2 {n : Nat} {pp : Pos} (hr : Room n X.A) (hm : X.mg "sorted" = none) (ha : PE X a (SX X.K F f)) (hg : Gl X "sorted" := by rfl) (he : starEach (a :: []) X.env = (false, eval a X.env) :: starEach [] X.env := by rfl) (hpl : (backTo pos (starEach [] X.env)).any (·.1) = false := by rfl) :
    PE X (.Call (.Name "sorted" pp) [a] [] pos) (SE X.K F (f1 uSort2 f)) := by
  refine pe_of fun S δ d δ' σ H Q R hf q => ?_
  obtain ⟨d0, h1, h2⟩ := f1_of hf
  unfold uSort2 at h2
  split at h2
  · rename_i r hu
    cases h2
    exact ⟨_, e_sorted hr hm ha hg he hpl, S, δ, d, δ', R, by rw [f1, h1]; simp [hu], q⟩
  · split at h2
    · rename_i ds
      obtain ⟨nss, h3, h4⟩ := Option.bind_eq_some_iff.mp h2
      split at h4
      · rename_i hne
        cases h4
        refine ⟨_, pe_callB (cr_sortTn hr) hg hm PyProof.Rows.boot_sorted (pa_cons ha pa_nil he) (he := he) (hpl := hpl), ?_⟩
        refine ⟨S, δ, _, δ', R, h1, fun v S1 H1 s1 R1 d1 => ?_⟩
        obtain ⟨p1, v1, rfl, e1, d1⟩ := d1
        rw [tupsD_eq h3] at d1
        obtain ⟨k1, k2⟩ := keys_eq d1
        refine ⟨p1, v1, keyI S1, rfl, SqL.of e1, fun x hx => ?_, fun x hx => ?_, fun ys p y1 y2 hp => ?_⟩
        · obtain ⟨ns, hn⟩ := k2 x hx
          obtain ⟨t, t1, t2⟩ := dq_tI hn
          exact ⟨t, t1, by rw [keyI_eq hn]; exact Tp.sq (Tp.ext R1.sub t2)⟩
        · have hm : keyI S1 x ∈ nss := by
            rw [← k1]
            exact List.mem_map.mpr ⟨x, hx, rfl⟩
          have := List.all_eq_true.mp hne _ hm
          intro z
          rw [z] at this
          cases this
        · rw [k1] at y2
          have dy := dqa_keys (S := S1) (ys := ys) fun x hx => k2 x (y1.mem_iff.mp hx)
          rw [y2] at dy
          obtain ⟨g4, g5⟩ := grow_lst R1.sub hp dy
          exact q _ _ _ (s1.trans (Stp.grow g4)) (R1.grow g4) g5
      · cases h4
    · cases h2
end Sd

/-! len(set(xs)), xs a list or tuple of ints. -/
namespace Sd
open PySem PySem.Spec PyProof.Rows L2
open Evl (Ex)
/-- the different ints of a list -/
def ddI : List Int → List Int
  | [] => []
  | a :: r => if r.contains a then ddI r else a :: ddI r
def cntI (ns : List Int) : Nat := (ddI ns).length
theorem dd_mem : ∀ (ns : List Int) (k : Int), k ∈ ddI ns ↔ k ∈ ns
  | [], _ => Iff.rfl
  | a :: r, k => by
    unfold ddI
    split
    · rename_i h
      rw [dd_mem r k, List.mem_cons]
      refine ⟨.inr, fun z => z.elim (fun e => ?_) id⟩
      rw [e]
      simpa using h
    · rw [List.mem_cons, List.mem_cons, dd_mem r k]
theorem dd_nodup : ∀ ns : List Int, (ddI ns).Nodup
  | [] => List.nodup_nil
  | a :: r => by
    unfold ddI
    split
    · exact dd_nodup r
    · rename_i h
      refine List.nodup_cons.mpr ⟨fun z => h ?_, dd_nodup r⟩
      rw [dd_mem] at z
      simpa using z
theorem cnt_eq {ns l : List Int} (h : l.Nodup) (m : ∀ k, k ∈ l ↔ k ∈ ns) : l.length = cntI ns :=
  ((List.perm_ext_iff_of_nodup h (dd_nodup ns)).mpr fun k => (m k).trans (dd_mem ns k).symm).length_eq
theorem fm_nodup (val : Nat → Int) : ∀ i, (firstMet val i).Nodup
  | 0 => List.nodup_nil
  | i + 1 => by
    rw [firstMet_succ]
    unfold step_dedup
    split
    · exact fm_nodup val i
    · rename_i h
      refine List.nodup_append.mpr ⟨fm_nodup val i, by simp, fun a ha b hb e => h ?_⟩
      rw [List.mem_singleton.mp hb] at e
      rw [← e]
      exact List.any_eq_true.mpr ⟨a, ha, by simp⟩
theorem map_getD : ∀ (ns : List Int), (List.range ns.length).map (fun i => ns.getD i 0) = ns
  | ns => by
    apply List.ext_getElem
    · simp
    · intro i h1 h2
      simp [h2]
theorem fm_cnt (ns : List Int) : (firstMet (fun i => ns.getD i 0) ns.length).length = cntI ns := cnt_eq (fm_nodup _ _) fun k => by
  have e := firstMet_any (fun i => ns.getD i 0) ns.length k
  rw [map_getD] at e
  have t : ∀ l : List Int, l.any (· == k) = true ↔ k ∈ l := fun l => by simp
  rw [← t, ← t, e]
def tLenI (K : PySem.W.Frag) (ta : TE) : TE := fun σ H Q => ta σ H fun x H1 => ∃ (l : Addr) (ns : List Int), x = .ref l ∧ SqI K H1 l ns ∧ ns.length ≤ 4000 ∧ Q (.int (cntI ns : Nat)) H1
section
variable {X : Cx} {a : Expr} {ta : TE} {p p2 q pos : Pos}
theorem len_of {pins : List (Addr × Obj)} {σ : L2.St} {H : Hp} {s : Shared} {Q : VK} {ns : List Int} {m : Nat} {S : Int → Bool} {d : Addr} {h' : Heap} {tk : Nat} (I : Inv X pins σ H s) (R : h'.SetOf (intKind X.prog X.w) d S m) (hm : m = cntI ns) (hs : m < 4096) (keep : ∀ b o, s.heap.get? b = some o → h'.get? b = some o) (q : Q (.int (cntI ns : Nat)) H) :
    wpAny (model X.prog X.w) X.A (call (.builtin "len") [.ref d]) (EP X pins σ Q) X.xe { s with heap := h', toks := tk } := by
  obtain ⟨o, es, ep, t, ho, hx, hd, _, _, _, hf, hn⟩ := R
  have I2 : Inv X pins σ H { s with heap := h', toks := tk } := I.kept keep
  refine call_len_set ho hx hd hf (by rw [hn]; omega) ⟨.int (cntI ns : Nat), H, I2.tok _, ⟨_, by rw [hn, hm]⟩, q⟩
theorem pe_lenI (hc : X.calm = true) (hg : Gl X "len") (hm : X.mg "len" = none) (hg2 : Gl X "set") (hm2 : X.mg "set" = none) (ha : PE X a ta) (na : starEach [a] X.env = (false, eval a X.env) :: starEach [] X.env) :
    PE X (.Call (.Name "len" p) [.Call (.Name "set" p2) [a] [] q] [] pos) (tLenI X.K ta) := by
  constructor
  intro pins s σ H Q I h
  refine Call_ (ld_blt I hg hm boot_len (callWith_builtin1 (args_cons (Call_ (ld_blt I hg2 hm2 boot_set (callWith_type1 (args_cons (thn (ha.run pins s σ H _ I h) fun v s1 ⟨x, H1, I1, r1, l, ns, ex, hq, hn, q1⟩ => args_nil ?_) na) na rfl))) rfl) rfl rfl))
  subst ex
  cases r1
  rcases hq with hq | hq
  · obtain ⟨its, r, pl, hz⟩ := I1.list hq
    have ri := r.ints
    have li := ri.length
    refine PySem.call_set_list (ns := ns) (I1.ok.hd hc) pl.isList (by simpa using ri) (by rw [List.size_toArray, li]; show ns.length + 1 < 4096; omega) fun h' tk hS hk => args_nil ?_
    have e9 : its.toArray.size = ns.length := by rw [List.size_toArray, li]
    rw [e9, fm_cnt] at hS
    have hle : cntI ns ≤ ns.length := by
      rw [← fm_cnt]
      exact firstMet_length_le _ _
    exact len_of I1 hS rfl (by omega) (fun b o e => hk b o (Heap.lt_size e) e) q1
  · obtain ⟨its, r, pl, hz⟩ := I1.tuple hq
    have ri := r.ints
    refine call_set_tupI ns (I1.ok.hd hc) pl (by simpa using ri) (by show ns.length + 1 < 4096; omega) fun h' tk c hS hcn hk => args_nil ?_
    have hcc : c = cntI ns := by
      obtain ⟨o, es, ep, t, ho, hx, hd, _, nd, hm, _, _, hes, _⟩ := hS
      have := cnt_eq (ns := ns) nd fun k => by rw [← hm k]; simp
      rw [List.length_map, Array.length_toList] at this
      omega
    exact len_of I1 hS.setOf hcc (by omega) hk q1
end
def uCnt : D → Option D
  | .list ds | .tuple ds => (intsD ds).bind fun ns => if ns.length ≤ 4000 then some (.int (cntI ns : Nat)) else none
  | _ => none
section
variable [TabSet] {X : Cx} {F : Fr} {a : Expr} {f : M} {p p2 q pos : Pos}
theorem e_lenI (hc : X.calm = true) (hm : X.mg "len" = none) (hm2 : X.mg "set" = none) (ha : PE X a (SX X.K F f)) (hg : Gl X "len" := by rfl) (hg2 : Gl X "set" := by rfl) (na : starEach [a] X.env = (false, eval a X.env) :: starEach [] X.env := by rfl) :
    PE X (.Call (.Name "len" p) [.Call (.Name "set" p2) [a] [] q] [] pos) (SE X.K F (f1 uCnt f)) := by
  refine pe_of fun S δ d δ' σ H Q R hf qq => ⟨_, pe_lenI hc hg hm hg2 hm2 ha na, ?_⟩
  obtain ⟨d0, h1, h2⟩ := f1_of hf
  refine ⟨S, δ, d0, δ', R, h1, fun v S1 H1 s1 R1 d1 => ?_⟩
  cases d0 <;> simp only [uCnt] at h2 <;> first | cases h2 | skip
  · obtain ⟨ns, h3, h4⟩ := Option.bind_eq_some_iff.mp h2
    split at h4
    · rename_i hn
      cases h4
      obtain ⟨p1, v1, rfl, e1, d1⟩ := d1
      exact ⟨p1, ns, rfl, .inl (by rw [← dqa_ints d1 h3]; exact SqL.of e1), hn, qq _ S1 H1 s1 R1 (.int _)⟩
    · cases h4
  · obtain ⟨ns, h3, h4⟩ := Option.bind_eq_some_iff.mp h2
    split at h4
    · rename_i hn
      cases h4
      obtain ⟨p1, v1, rfl, e1, d1⟩ := dq_tup d1
      exact ⟨p1, ns, rfl, .inr (by rw [← dqa_ints d1 h3]; exact Tp.sq (Tp.ext R1.sub e1)), hn, qq _ S1 H1 s1 R1 (.int _)⟩
    · cases h4
end
theorem wp_bindC {o : Option (List Int)} {Q : D → Prop} : Wp (o.bind fun ns => if ns.length ≤ 4000 then some (PyData.int (cntI ns : Nat)) else none) Q ↔ Wp o fun ns => ns.length ≤ 4000 ∧ Q (.int (cntI ns : Nat)) := by
  rcases o with _ | ns
  · simp
  · by_cases e : ns.length ≤ 4000
    · simp [e]
    · simp only [Option.bind_some, e, if_false, wp_some, wp_none, false_and]
@[simp] theorem wp_uCntL {ds : List D} {Q : D → Prop} : Wp (uCnt (.list ds)) Q ↔ Wp (intsD ds) fun ns => ns.length ≤ 4000 ∧ Q (.int (cntI ns : Nat)) := wp_bindC
@[simp] theorem wp_uCntT {ds : List D} {Q : D → Prop} : Wp (uCnt (.tuple ds)) Q ↔ Wp (intsD ds) fun ns => ns.length ≤ 4000 ∧ Q (.int (cntI ns : Nat)) := wp_bindC
end Sd

/-! A statement that reads an own list or dict as a value: from there on it stands as it is. -/
namespace Sd
open PySem PySem.Spec PyProof.Rows L2
open Evl (Ex)
/-- what slot i has for itself is given away before -/
def givD (i : Nat) (δ : DE) : Option DE := match δ[i]? with
  | some (.ow ob) => if i ≠ 0 then some (δ.set i (.sh (obD ob))) else none
  | _ => some δ
def sGive (i : Nat) (ms : MS) : MS := fun δ => (givD i δ).bind ms
section
variable [TabSet] {X : Cx} {F : Fr} {W : WX} {st : Stmt} {ms : MS}
theorem s_give {i : Nat} (h : PS X st (SS X.K X.mg F W ms)) : PS X st (SS X.K X.mg F W (sGive i ms)) := ps_of h fun Z σ H hw => by
  obtain ⟨S, δ, o, R, hf, q⟩ := hw
  obtain ⟨δ1, h1, h2⟩ := Option.bind_eq_some_iff.mp hf
  unfold givD at h1
  split at h1
  · rename_i ob e
    split at h1
    · rename_i h0
      cases h1
      obtain ⟨a, S1, e1, ex, dq, R1⟩ := R.giveO e h0
      exact ⟨S1, _, o, R1, h2, out_ext ex q⟩
    · cases h1
  · cases h1
    exact ⟨S, δ, o, R, h2, q⟩
end
@[simp] theorem wp_sGive {i : Nat} {ms : MS} {δ : DE} {Q : Out → Prop} : Wp (sGive i ms δ) Q ↔ Wp (givD i δ) fun δ1 => Wp (ms δ1) Q := by
  unfold sGive
  rcases givD i δ with _ | δ1 <;> simp
theorem giv_ow {i : Nat} {δ : DE} {ob : Ob} (h : δ[i]? = some (.ow ob)) (h0 : i ≠ 0) : givD i δ = some (δ.set i (.sh (obD ob))) := by
  unfold givD
  rw [h]
  simp [h0]
theorem giv_sh {i : Nat} {δ : DE} {d : D} (h : δ[i]? = some (.sh d)) : givD i δ = some δ := by
  unfold givD
  rw [h]
end Sd

/-! all(xss), xss a list of lists: none of them is empty. -/
namespace Sd
open PySem PySem.Spec PyProof.Rows L2
open Evl (Ex)
theorem map_getL {α : Type} : ∀ (xs : List (List α)), (List.range xs.length).map (fun i => xs.getD i []) = xs
  | xs => by
    apply List.ext_getElem
    · simp
    · intro i h1 h2
      simp [h2]
section
variable {prog : Program} {w : World} {A : Around} {E : Value → Shared → Prop} {s : Shared}
variable {R : Result → Shared → Prop} {I a : Addr} {vs : Array Value} {h0 : Heap}
theorem all_lists {tr : Nat → Bool} (W : WalksS prog w A.in1 I [I, a] [I] (fun x y => y = x) vs.size (fun i v => vs[i]? = some v) (fun i s' => s'.heap.IsListIter I a i ∧ s'.heap.IsList a vs))
    (hI : ∀ b o, h0.get? b = some o → b ≠ I) (hv : ∀ (i : Nat) v, vs[i]? = some v → ∃ (l : Addr) (xs : List Value), v = .ref l ∧ h0.IsList l xs.toArray ∧ tr i = !xs.isEmpty ∧ xs.length ≤ sizeLine) :
    ∀ (k i : Nat) (s : Shared), vs.size - i = k → i ≤ vs.size → (s.heap.IsListIter I a i ∧ s.heap.IsList a vs) → (∀ b o, h0.get? b = some o → s.heap.get? b = some o) →
      (∀ (s' : Shared), (∀ b o, h0.get? b = some o → s'.heap.get? b = some o) → s'.gens = s.gens → s'.drawn = s.drawn → s'.os = s.os → R (.ok (.ret (.bool (((List.range vs.size).drop i).all tr)))) s') →
      codeAny (model prog w) A (.builtin "all.loop" ⟨[.ref I], []⟩) R s := by
  intro k
  induction k with
  | zero =>
    intro i s hk hi st keep hR
    have ei : i = vs.size := by omega
    subst ei
    refine codeAny_builtin F.entry_all_loop ?_
    rw [Around.under_plainId F.plain_all_loop _]
    show wpAny _ A.in1 (pyNext (.ref I) >>= _) _ _ s
    refine wpAny_bind (W.done s _ _ st fun s' m => ?_)
    refine wpAny_bind (wpAny_rule (wpAny_pure ?_))
    have z := hR s' (fun b o e => m.heap b o (by simpa using hI b o e) (keep b o e)) m.gens m.drawn m.os
    rw [List.drop_of_length_le (by rw [List.length_range]; exact Nat.le_refl _)] at z
    exact z
  | succ k ih =>
    intro i s hk hi st keep hR
    have lt : i < vs.size := by omega
    have hd : (List.range vs.size).drop i = i :: (List.range vs.size).drop (i + 1) := by
      rw [List.drop_eq_getElem_cons (by rw [List.length_range]; exact lt)]
      simp
    rw [hd, List.all_cons] at hR
    refine codeAny_builtin F.entry_all_loop ?_
    rw [Around.under_plainId F.plain_all_loop _]
    show wpAny _ A.in1 (pyNext (.ref I) >>= _) _ _ s
    refine wpAny_bind (W.item i s _ _ lt st fun v s1 hP st1 m => ?_)
    obtain ⟨l, xs, rfl, ⟨o, e, r⟩, ht, hz⟩ := hv i v hP
    have keep1 : ∀ b o, h0.get? b = some o → s1.heap.get? b = some o := fun b o e => m.heap b o (by simpa using hI b o e) (keep b o e)
    have hsz : ((xs.toArray.size : Nat) : Int) < 2 ^ 63 := by
      rw [List.size_toArray]
      have := hz
      rw [sizeLine_eq] at this
      omega
    refine wpAny_bind (wpAny_holding (wpAny_truthy_list ⟨o, keep1 l o e, r⟩ hsz ?_))
    refine wpAny_bind (wpAny_letGo ?_)
    have eb : (!xs.toArray.isEmpty) = tr i := by rw [ht]; simp
    rw [eb]
    cases hb : tr i with
    | true =>
      rw [hb, Bool.true_and] at hR
      refine wpAny_pure ⟨plainId_quiet F.plain_all_loop _, ih (i + 1) _ (by omega) lt st1 keep1 fun s' k1 k2 k3 k4 => hR s' k1 (k2.trans m.gens) (k3.trans m.drawn) (k4.trans m.os)⟩
    | false =>
      rw [hb, Bool.false_and] at hR
      exact wpAny_bind (wpAny_rule (wpAny_pure (hR _ keep1 m.gens m.drawn m.os)))
theorem all_ll {xss : List (List Value)} {Q : Value → Shared → Prop} (hh : A.handled = none) (ha : s.heap.IsList a vs) (hv : ∀ (i : Nat) v, vs[i]? = some v → ∃ (l : Addr) (xs : List Value), v = .ref l ∧ s.heap.IsList l xs.toArray ∧ xss[i]? = some xs ∧ xs.length ≤ sizeLine) (hl : vs.size = xss.length)
    (hQ : ∀ (s' : Shared), (∀ b o, s.heap.get? b = some o → s'.heap.get? b = some o) → s'.gens = s.gens → s'.drawn = s.drawn → s'.os = s.os → Q (.bool (xss.all fun xs => !xs.isEmpty)) s') : wpAny (model prog w) A (call (.builtin "all") [.ref a]) Q E s := by
  refine call_function_tree F.kind_all F.plain_all F.entry_all (F.args_all1 _) ?_
  unfold Builtin.«all»
  refine wpAny_bind (m := oneArg "all" _) (wpAny_pure ?_)
  refine wpAny_bind (PySem.W.iter_listW (A := A.in1) hh ha fun s2 e W st hf hI keep => ?_)
  have tr : (List.range vs.size).all (fun i => !(xss.getD i []).isEmpty) = xss.all fun xs => !xs.isEmpty := by
    rw [hl]
    conv => rhs; rw [← map_getL xss]
    rw [List.all_map]
    rfl
  refine wpAny_pure ⟨plainId_quiet F.plain_all_loop _, all_lists (h0 := s.heap) (tr := fun i => !(xss.getD i []).isEmpty) W (fun x o g z => hI x o g (List.mem_singleton.mpr z)) (fun i v h => ?_) vs.size 0 s2 rfl (Nat.zero_le _) st keep fun s' k1 k2 k3 k4 => ?_⟩
  · obtain ⟨l, xs, h1, h2, h3, h4⟩ := hv i v h
    refine ⟨l, xs, h1, h2, ?_, h4⟩
    rw [List.getD_eq_getElem?_getD, h3]
    rfl
  · subst e
    rw [List.drop_zero, tr]
    exact hQ s' k1 k2 k3 k4
end
section
variable {X : Cx} {pins : List (Addr × Obj)} {σ : L2.St} {H : Hp} {s : Shared}
theorem lists_of2 (I : Inv X pins σ H s) : ∀ {us : List V} {xss : List (List V)} {is : List Value}, Paired (IsLst X.K H) us xss → Vals us is → ∃ uss : List (List Value), uss.length = is.length ∧ uss.map List.isEmpty = xss.map List.isEmpty ∧
    ∀ (i : Nat) v, is[i]? = some v → ∃ (l : Addr) (xs : List Value), v = .ref l ∧ s.heap.IsList l xs.toArray ∧ uss[i]? = some xs ∧ xs.length ≤ sizeLine
  | _, _, _, .nil, .nil => ⟨[], rfl, rfl, fun i v h => by simp at h⟩
  | _, _, _, .cons (b := xs) ⟨p, e, h⟩ t, .cons r q => by
    obtain ⟨uss, l1, l2, g⟩ := lists_of2 I t q
    obtain ⟨us, rv, hl, hz⟩ := I.list h
    subst e
    cases r
    have ln := rv.length
    have ee : us.isEmpty = xs.isEmpty := by
      cases us <;> cases xs <;> first | rfl | (simp at ln)
    refine ⟨us :: uss, by rw [List.length_cons, List.length_cons, l1], by rw [List.map_cons, List.map_cons, l2, ee], fun i v hv => ?_⟩
    cases i with
    | zero =>
      cases hv
      exact ⟨p, us, rfl, hl.isList, rfl, by rw [← ln]; exact hz⟩
    | succ i => exact g i v hv
def rAllL (K : PySem.W.Frag) : List V → Hp → VK → Prop := fun vs H Q => ∃ (a : Addr) (us : List V) (xss : List (List V)), vs = [.ref a] ∧ SqL K H a us ∧ Paired (IsLst K H) us xss ∧ Q (.bl (xss.all fun xs => !xs.isEmpty)) H
theorem cr_allL (hc : X.calm = true) : CallR X (.builtin "all") (rAllL X.K) := by
  rintro pins s σ H vs us Q I r ⟨a, es, xss, rfl, ha, hx, q⟩
  rw [Vals.ref1 r]
  obtain ⟨is, rv, hl, _⟩ := I.list ha
  obtain ⟨uss, l1, l2, g⟩ := lists_of2 I hx rv
  have ea : (uss.all fun xs => !xs.isEmpty) = xss.all fun xs => !xs.isEmpty := by
    have z : ∀ {α : Type} (l : List (List α)), (l.all fun xs => !xs.isEmpty) = (l.map List.isEmpty).all fun b => !b := fun l => by rw [List.all_map]; rfl
    rw [z, z, l2]
  refine all_ll (xss := uss) (I.ok.hd hc) hl.isList (fun i v hv => g i v (by simpa using hv)) (by rw [List.size_toArray]; exact l1.symm) fun s' k1 k2 k3 k4 => ?_
  obtain ⟨hp, gg, d, tk, os⟩ := s'
  dsimp only at k1 k2 k3 k4
  subst k2 k3 k4
  rw [ea]
  exact ⟨.bl _, H, I.kept k1, rfl, q⟩
end
/-- all(xs) of bools, or of lists -/
def uAll2 (d : D) : Option D := match uAll d with
  | some r => some r
  | none => match d with
    | .list ds => (listsD ds).map fun xss => .bool (xss.all fun xs => !xs.isEmpty)
    | _ => none
section
variable [TabSet] {X : Cx} {F : Fr} {a : Expr} {f : M} {pos : Pos}
theorem lists_emp {K : PySem.W.Frag} {S H : Hp} (ex : Ex S H) : ∀ {vs : List V} {ds : List D} {dss : List (List D)}, DqAll S vs ds → listsD ds = some dss → ∃ xss : List (List V), Paired (IsLst K H) vs xss ∧ (xss.all fun xs => !xs.isEmpty) = dss.all fun xs => !xs.isEmpty
  | _, _, _, .nil, h => by
    cases h
    exact ⟨[], .nil, rfl⟩
  | _, _, dss, .cons (d := d) hd t, h => by
    cases d <;> simp only [listsD] at h <;> first | cases h | skip
    rename_i ds0
    obtain ⟨r, hr, rfl⟩ := Option.map_eq_some_iff.mp h
    obtain ⟨xss, p1, p2⟩ := lists_emp (K := K) ex t hr
    obtain ⟨a, us, rfl, e1, e2⟩ := dq_list hd
    have ln := dqa_len e2
    have ee : us.isEmpty = ds0.isEmpty := by
      cases us <;> cases ds0 <;> first | rfl | (simp at ln)
    exact ⟨us :: xss, .cons ⟨a, rfl, SqL.of (ex _ _ e1)⟩ p1, by rw [List.all_cons, List.all_cons, p2, ee]⟩
theorem e_all2 {pp : Pos} (hc : X.calm = true) (hm : X.mg "all" = none) (ha : PE X a (SX X.K F f)) (hg : Gl X "all" := by rfl) (he : starEach (a :: []) X.env = (false, eval a X.env) :: starEach [] X.env := by rfl) (hpl : (backTo pos (starEach [] X.env)).any (·.1) = false := by rfl) :
    PE X (.Call (.Name "all" pp) [a] [] pos) (SE X.K F (f1 uAll2 f)) := by
  refine pe_of fun S δ d δ' σ H Q R hf q => ?_
  obtain ⟨d0, h1, h2⟩ := f1_of hf
  unfold uAll2 at h2
  split at h2
  · rename_i r hu
    cases h2
    exact ⟨_, e_all (hc := hc) (hg := hg) (hm := hm) (ha := ha) (he := he) (hpl := hpl), S, δ, d, δ', R, by rw [f1, h1]; simp [hu], q⟩
  · split at h2
    · rename_i ds
      obtain ⟨dss, h3, h4⟩ := Option.map_eq_some_iff.mp h2
      cases h4
      refine ⟨_, pe_callB (cr_allL hc) hg hm (by decide +kernel) (pa_cons ha pa_nil he) (he := he) (hpl := hpl), S, δ, _, δ', R, h1, fun v S1 H1 s1 R1 d1 => ?_⟩
      obtain ⟨p1, v1, rfl, e1, d1⟩ := d1
      obtain ⟨xss, k1, k2⟩ := lists_emp (K := X.K) R1.sub d1 h3
      exact ⟨p1, v1, xss, rfl, SqL.of e1, k1, by rw [k2]; exact q _ S1 H1 s1 R1 (.bl _)⟩
    · cases h2
end
end Sd

/-! all over bools or lists, wished for from behind. -/
namespace Sd
open PySem PySem.Spec PyProof.Rows L2
theorem bools_lists : ∀ {α : Type} (f : α → List D) (xs : List α), xs ≠ [] → boolsD (xs.map fun x => PyData.list (f x)) = none
  | _, _, [], h => absurd rfl h
  | _, f, x :: r, _ => by simp [boolsD]
theorem lists_map {α : Type} (f : α → List D) : ∀ xs : List α, listsD (xs.map fun x => PyData.list (f x)) = some (xs.map f)
  | [] => rfl
  | x :: r => by
    rw [List.map_cons]
    simp only [listsD, lists_map f r, Option.map_some, List.map_cons]
theorem all2_lists {α : Type} (f : α → List D) (xs : List α) : uAll2 (.list (xs.map fun x => .list (f x))) = some (.bool (xs.all fun x => !(f x).isEmpty)) := by
  unfold uAll2
  cases xs with
  | nil => rfl
  | cons x r =>
    have e : uAll (.list ((x :: r).map fun x => .list (f x))) = none := by
      have e0 : ∀ L : List D, uAll (.list L) = (boolsD L).map fun bs => .bool (bs.all fun k => k) := fun _ => rfl
      rw [e0, bools_lists f (x :: r) (by simp)]
      rfl
    rw [e]
    show (listsD ((x :: r).map fun x => PyData.list (f x))).map _ = _
    rw [lists_map, Option.map_some, List.all_map]
    rfl
end Sd

/-! t.index(y) of tuples, beside lists -/
namespace Sd
open PySem PySem.Spec PyProof.Rows L2
open Evl (Ex)
section
variable {X : Cx}
def rIndexT (K : PySem.W.Frag) : V → List V → Hp → VK → Prop := fun x xs H Q => ∃ (a : Addr) (y : V) (d : PyData) (ds : List PyData) (j : Nat) (z : PyData), x = V.ref a ∧ xs = [y] ∧ Dp K H (V.ref a) (.tuple ds) ∧ Dp K H y d ∧
  SeqAt.shaped (.tuple ds) = true ∧ SeqAt.shaped d = true ∧ ds[j]? = some z ∧ PyData.eqv z d = true ∧ (∀ (m : Nat) (z' : PyData), m < j → ds[m]? = some z' → PyData.eqv z' d = false) ∧ Q (.int (j : Nat)) H
theorem mt_indexT (hu : X.A.units + 65 < cLine) : MtR X "tuple.index" (rIndexT X.K) := by
  intro pins s σ H x xs v us Q I rx rxs h
  obtain ⟨a, y, d, ds, j, z, rfl, rfl, hl, hy, sl, sd, hz, hzj, hno, q⟩ := h
  cases rx
  cases rxs with
  | cons ry rt =>
    rename_i uy ut
    cases rt
    obtain ⟨bs, r1⟩ := Dp.reads I d y uy hy ry
    have hxs : PyData.canLayAll0 ds = true := SeqAt.canLay_of_shaped sl
    have hroom : X.A.units + 1 + min (PyData.depthAll ds) d.depth < cLine := room_in_shaped sd hu
    cases hl with
    | tup hs ha =>
      obtain ⟨its, rv, pl, hsz⟩ := I.tuple hs
      obtain ⟨⟨cls, dd, data, sls⟩, ho, hc, n, hdt⟩ := pl
      simp only at hc hdt
      subst hc hdt
      obtain ⟨as, h4⟩ := Dp.readsAll I ds _ its ha rv
      have hn : its.length = ds.length := SeqAt.ReadsAll.length ds its as h4
      have hmap : its.map (SeqAt.readOf s.heap) = ds := SeqAt.readsAll_map ds its as hxs h4
      obtain ⟨hjd, _⟩ := List.getElem?_eq_some_iff.mp hz
      have hjl : j < its.length := by omega
      have hj : j < its.toArray.size := by simpa using hjl
      have at_ : ∀ (m : Nat) (hm : m < its.toArray.size) (z' : PyData), ds[m]? = some z' → SeqAt.readOf s.heap its.toArray[m] = z' := by
        intro m hm z' hz'
        have hml : m < its.length := by simpa using hm
        rw [← hmap, List.getElem?_map, List.getElem?_eq_getElem hml] at hz'
        have e1 : SeqAt.readOf s.heap its[m] = z' := Option.some.inj (show some (SeqAt.readOf s.heap its[m]) = some z' from hz')
        simpa using e1
      refine call_meets PySem.F.slot_tuple_index ⟨_, ho, rfl⟩ PySem.F.entry_tuple_index (PySem.F.args_tuple_index_2 _ _)
        (TI.tuple_indexAt a its.toArray n dd sls uy (fun u => PyData.eqv (SeqAt.readOf s.heap u) d) j hj ?_ ?_) ⟨ho, SeqAt.items_eqAt (vs := its.toArray) (show ReadsAll s.heap its.toArray.toList ds as from h4) r1 hxs (SeqAt.canLay_of_shaped sd) hroom, ⟨.int (j : Nat), H, I.tok _, ⟨_, rfl⟩, q⟩⟩
      · show PyData.eqv (SeqAt.readOf s.heap its.toArray[j]) d = true
        rw [at_ j hj z hz]
        exact hzj
      · intro m hm hmj
        have hmd : m < ds.length := by omega
        have hz' : ds[m]? = some ds[m] := List.getElem?_eq_getElem hmd
        show PyData.eqv (SeqAt.readOf s.heap its.toArray[m]) d = false
        rw [at_ m hm _ hz']
        exact hno m _ hmj hz'
end
section
variable {X : Cx} {o e : Expr} {es : List Expr} {to : TE} {t : TA} {apos cpos : Pos} {r : V → List V → Hp → VK → Prop}
/-- a tuple's own method: the tuple is one whose object is known -/
def tTM (r : V → List V → Hp → VK → Prop) (to : TE) (t : TA) : TE := fun σ H Q => to σ H fun x H1 => (∃ a xs, x = V.ref a ∧ Tp H1 a xs) ∧ t σ H1 fun ys H2 => r x ys H2 Q
theorem pe_tm (hm : MtR X "tuple.index" r) (ho : PE X o to) (ha : PA X (e :: es) t) (hbase : attributeBase o "index" X.env (eval o X.env) = eval o X.env := by rfl)
    (hfew : ((backTo cpos (starEach (e :: es) X.env)).all (fun x => !x.1) && (backToKw cpos (keywordEach [] X.env)).all (fun x => x.1.isSome)
      && decide ((e :: es).length + ([] : List Keyword).length + (if ([] : List Keyword).isEmpty then 0 else 1) < 30)) = true := by rfl)
    (hline : (apos.endLine == cpos.line) = true := by rfl) (hs : starEach (e :: es) X.env = (false, eval e X.env) :: starEach es X.env := by rfl) (hplain : (backTo cpos (starEach es X.env)).any (·.1) = false := by rfl) :
    PE X (.Call (.Attribute o "index" apos) (e :: es) [] cpos) (tTM r to t) := by
  refine ⟨fun pins s σ H Q I h => wpAny_Call_method_late hbase hfew hline rfl (thn (ho.run pins s σ H _ I h) fun v s1 ⟨x, H1, J, rx, ⟨a, xs, ex, its, n, ha1⟩, q1⟩ => ?_)⟩
  subst ex
  cases rx
  have hob : s1.heap.get? a = some (tObj its n) := (J.hok a _ ha1).1
  refine ⟨"tuple", "tuple.index", PySem.F.plainAttrs_tuple, PySem.F.slot_tuple_index, PySem.F.type_tuple_index, ⟨_, hob, rfl⟩, fun b eb => by cases eb; exact ⟨_, hob, rfl⟩, ?_⟩
  have hA := ha.run cpos pins s1 σ H1 _ J q1
  rw [hs] at hA ⊢
  refine Calls.callWith_builtin (by show (false || (backTo cpos (starEach es X.env)).any (·.1)) = false; rw [hplain] <;> rfl) (Calls.evalArgs_plain ?_)
  exact thn hA fun us s2 ⟨vs, H2, J2, r2, q2⟩ => hm pins s2 σ H2 (V.ref a) vs (Value.ref a) us Q J2 rfl r2 q2
end
def fIndexA (f g : M) : M := fun δ => match f δ with
  | some (.list xs, δ1) => match g δ1 with
    | some (y, δ2) => (uIndex xs y).map fun z => (z, δ2)
    | none => none
  | some (.tuple xs, δ1) => match g δ1 with
    | some (y, δ2) => (uIndex xs y).map fun z => (z, δ2)
    | none => none
  | _ => none
section
variable [TabSet] {X : Cx} {F : Fr} {f g : M} {a b : Expr} {pos : Pos}
theorem e_indexA {n : Nat} (hr : Room n X.A) {apos : Pos} (ha : PE X a (SE X.K F f)) (hb : PE X b (SE X.K F g)) (he : starEach (b :: []) X.env = (false, eval b X.env) :: starEach [] X.env := by rfl) (hbase : attributeBase a "index" X.env (eval a X.env) = eval a X.env := by rfl)
    (hfew : ((backTo pos (starEach (b :: []) X.env)).all (fun x => !x.1) && (backToKw pos (keywordEach [] X.env)).all (fun x => x.1.isSome)
      && decide ((b :: []).length + ([] : List Keyword).length + (if ([] : List Keyword).isEmpty then 0 else 1) < 30)) = true := by rfl)
    (hline : (apos.endLine == pos.line) = true := by rfl) : PE X (.Call (.Attribute a "index" apos) [b] [] pos) (SE X.K F (fIndexA f g)) := by
  refine pe_of fun S δ d δ' σ H Q R hf q => ?_
  unfold fIndexA at hf
  split at hf
  · rename_i xs δ1 h1
    refine ⟨_, pe_bm PySem.F.plainAttrs_list PySem.F.slot_list_index PySem.F.type_list_index (mt_indexD (hu65 hr)) ha (pa_cons hb pa_nil he) (hbase := hbase) (hfew := hfew) (hline := hline) (hs := he), ?_⟩
    split at hf
    · rename_i y δ2 h2
      unfold uIndex at hf
      split at hf
      · rename_i hc
        cases hj : xs.findIdx? fun z => PyData.eqv z y with
        | none => rw [hj] at hf; cases hf
        | some j =>
          rw [hj] at hf
          cases hf
          obtain ⟨hlt, hz, hm⟩ := List.findIdx?_eq_some_iff_getElem.mp hj
          refine ⟨S, δ, _, δ1, R, h1, fun v S1 H1 s1 R1 d1 => ?_⟩
          obtain ⟨a0, us, rfl, e1, e2⟩ := dq_list d1
          refine ⟨.inl ⟨rfl, _, SqL.of (R1.sub _ _ e1)⟩, S1, δ1, y, _, R1, h2, fun w S2 H2 s2 R2 d2 => ?_⟩
          refine ⟨a0, w, y, xs, j, xs[j], rfl, rfl, dq_dp (dq_ext R2.sub (dq_ext s2.s (.lst e1 e2))) (SeqAt.canLay_of_shaped hc.1), dq_dp (dq_ext R2.sub d2) (SeqAt.canLay_of_shaped hc.2), hc.1, hc.2, List.getElem?_eq_getElem hlt, hz, fun m z hm' hz' => ?_, q _ S2 H2 (s1.trans s2) R2 (.int _)⟩
          obtain ⟨hl, rfl⟩ := List.getElem?_eq_some_iff.mp hz'
          simpa using hm m hm'
      · cases hf
    · cases hf
  · rename_i xs δ1 h1
    refine ⟨_, pe_tm (mt_indexT (hu65 hr)) ha (pa_cons hb pa_nil he) (hbase := hbase) (hfew := hfew) (hline := hline) (hs := he), ?_⟩
    split at hf
    · rename_i y δ2 h2
      unfold uIndex at hf
      split at hf
      · rename_i hc
        cases hj : xs.findIdx? fun z => PyData.eqv z y with
        | none => rw [hj] at hf; cases hf
        | some j =>
          rw [hj] at hf
          cases hf
          obtain ⟨hlt, hz, hm⟩ := List.findIdx?_eq_some_iff_getElem.mp hj
          refine ⟨S, δ, _, δ1, R, h1, fun v S1 H1 s1 R1 d1 => ?_⟩
          obtain ⟨a0, us, rfl, e1, e2⟩ := dq_tup d1
          refine ⟨⟨_, _, rfl, Tp.ext R1.sub e1⟩, S1, δ1, y, _, R1, h2, fun w S2 H2 s2 R2 d2 => ?_⟩
          refine ⟨a0, w, y, xs, j, xs[j], rfl, rfl, dq_dp (dq_ext R2.sub (dq_ext s2.s (.tup e1 e2))) (SeqAt.canLay_of_shaped hc.1), dq_dp (dq_ext R2.sub d2) (SeqAt.canLay_of_shaped hc.2), hc.1, hc.2, List.getElem?_eq_getElem hlt, hz, fun m z hm' hz' => ?_, q _ S2 H2 (s1.trans s2) R2 (.int _)⟩
          obtain ⟨hl, rfl⟩ := List.getElem?_eq_some_iff.mp hz'
          simpa using hm m hm'
      · cases hf
    · cases hf
  · cases hf
end
/-- .. of a list or of a tuple -/
def idxK (g : M) (Q : D × DE → Prop) : D × DE → Prop
  | (.list xs, δ) => Wp (g δ) fun q => Wp (uIndex xs q.1) fun z => Q (z, q.2)
  | (.tuple xs, δ) => Wp (g δ) fun q => Wp (uIndex xs q.1) fun z => Q (z, q.2)
  | _ => False
section
variable {f g : M} {δ : DE} {Q : D × DE → Prop}
@[simp] theorem idxK_l {xs : List D} : idxK g Q (.list xs, δ) ↔ Wp (g δ) fun q => Wp (uIndex xs q.1) fun z => Q (z, q.2) := Iff.rfl
@[simp] theorem idxK_t {xs : List D} : idxK g Q (.tuple xs, δ) ↔ Wp (g δ) fun q => Wp (uIndex xs q.1) fun z => Q (z, q.2) := Iff.rfl
@[simp] theorem idxK_tI {ns : List Int} : idxK g Q (tI ns, δ) ↔ Wp (g δ) fun q => Wp (uIndex (ns.map .int) q.1) fun z => Q (z, q.2) := Iff.rfl
@[simp] theorem wp_fIndexA : Wp (fIndexA f g δ) Q ↔ Wp (f δ) (idxK g Q) := by
  unfold fIndexA
  rcases f δ with _ | ⟨x, δ1⟩
  · simp
  cases x <;> simp [idxK] <;> rcases g δ1 with _ | ⟨y, δ2⟩ <;> simp
@[simp] theorem wp_uIndex_i {ns : List Int} {i : Int} {Q : D → Prop} : Wp (uIndex (ns.map .int) (.int i)) Q ↔ i ∈ ns ∧ Q (.int (ns.idxOf i : Nat)) := by
  have hs : shn 64 (.list (ns.map PyData.int)) = true := by rw [shn_l, List.all_map]; simp
  unfold uIndex
  rw [if_pos ⟨hs, shn_i⟩, List.findIdx?_map]
  have e : ((fun z => PyData.eqv z (PyData.int i)) ∘ PyData.int) = (· == i) := funext fun k => by simp [Bool.beq_eq_decide_eq]
  rw [e]
  by_cases h : i ∈ ns
  · have : ns.findIdx? (· == i) = some (ns.idxOf i) := by
      rw [List.findIdx?_eq_some_iff_findIdx_eq]
      exact ⟨List.idxOf_lt_length_iff.mpr h, rfl⟩
    rw [this]
    simp [h]
  · have : ns.findIdx? (· == i) = none := by
      rw [List.findIdx?_eq_none_iff]
      intro x hx
      simp
      rintro rfl
      exact h hx
    rw [this]
    simp [h]
end
end Sd

/-! zip over lists and tuples, mixed. -/
namespace Sd
open PySem PySem.Spec PyProof.Rows L2
open Evl (Ex)
/-- a tuple (true) or a list (false) -/
def SqK (k : Bool) (K : PySem.W.Frag) (H : Hp) (a : Addr) (xs : List V) : Prop := match k with | true => SqT K H a xs | false => SqL K H a xs
def ItK (k : Bool) (h : Heap) (i a : Addr) (n : Nat) : Prop := match k with | true => h.IsTupleIter i a n | false => h.IsListIter i a n
def ObK (k : Bool) (h : Heap) (a : Addr) (its : Array Value) : Prop := match k with | true => h.IsTuple a its | false => h.IsList a its
def ItO (k : Bool) (a : Addr) : Obj := match k with | true => { cls := .type "tuple_iterator", data := .fields #[.ref a, .int 0 0] } | false => { cls := .type "list_iterator", data := .fields #[.ref a, .int 0 0] }
theorem sqk_inv {k : Bool} {X : Cx} {pins : List (Addr × Obj)} {σ : L2.St} {H : Hp} {s : Shared} {a : Addr} {xs : List V} (I : Inv X pins σ H s) (h : SqK k X.K H a xs) : ∃ its, Vals xs its ∧ ObK k s.heap a its.toArray ∧ a < s.heap.objs.size := by
  cases k with
  | true =>
    obtain ⟨its, rv, p, hz⟩ := I.tuple h
    exact ⟨its, rv, p, by obtain ⟨_, q, _⟩ := p; exact Heap.lt_size q⟩
  | false =>
    obtain ⟨its, rv, p, hz⟩ := I.list h
    exact ⟨its, rv, p.isList, p.lt⟩
theorem sqk_inj {k : Bool} {X : Cx} {pins : List (Addr × Obj)} {σ : L2.St} {H : Hp} {s : Shared} {a : Addr} {xs ys : List V} (I : Inv X pins σ H s) (h : SqK k X.K H a xs) (g : SqK k X.K H a ys) : xs = ys := by
  cases k with
  | true => exact I.tuple_inj h g
  | false => exact I.list_inj h g
theorem itk_live {k : Bool} {h : Heap} {i a : Addr} {n : Nat} (t : ItK k h i a n) : ∃ o, h.get? i = some o ∧ ∀ v : Option Value, o.data ≠ .cell v := by
  cases k <;> (obtain ⟨o, e, _, d⟩ := t; exact ⟨o, e, fun v q => by rw [d] at q; cases q⟩)
theorem itk_keep {k : Bool} {h h' : Heap} {i a : Addr} {n : Nat} (t : ItK k h i a n) (kp : ∀ o, h.get? i = some o → h'.get? i = some o) : ItK k h' i a n := by
  cases k <;> (obtain ⟨o, e, c, d⟩ := t; exact ⟨o, kp o e, c, d⟩)
theorem obk_keep {k : Bool} {h h' : Heap} {a : Addr} {its : Array Value} (t : ObK k h a its) (kp : ∀ o, h.get? a = some o → h'.get? a = some o) : ObK k h' a its := by
  cases k <;> (obtain ⟨o, e, r⟩ := t; exact ⟨o, kp o e, r⟩)
theorem draws_k {prog : Program} {w : World} {A : Around} (k : Bool) (hA : A.handled = none) (i a : Addr) (ne : a ≠ i) (its : Array Value) :
    Draws prog w A i [i, a] its.size (fun n v => its[n]? = some v) (fun n h => ItK k h i a n ∧ ObK k h a its) := by
  cases k with
  | true => exact Draws.tuple hA i a ne its
  | false => exact Draws.list hA i a ne its
/-- one that is at its end -/
theorem draws_e {prog : Program} {w : World} {A : Around} (k : Bool) (hA : A.handled = none) (i a : Addr) (n : Nat) (its : Array Value) (hn : its.size ≤ n) :
    Draws prog w A i [i, a] n (fun _ _ => True) (fun j h => j = n ∧ ItK k h i a n ∧ ObK k h a its) where
  live := fun j h st => by
    obtain ⟨o, e, _⟩ := itk_live st.2.1
    exact ⟨o, e⟩
  frame := fun j h h' st kp => ⟨st.1, itk_keep st.2.1 fun o e => kp i (by simp) o e, obk_keep st.2.2 fun o e => kp a (by simp) o e⟩
  item := fun j s Q E hlt st _ => by
    have := st.1
    omega
  done := fun s Q E st q => by
    have hx : its[n]? = none := by simp; omega
    cases k with
    | true => exact wpAny_nextOf_tuple_end hA st.2.1 st.2.2 hx q
    | false => exact wpAny_nextOf_list_end hA st.2.1 st.2.2 hx q
theorem begins_k (k : Bool) (a : Addr) (its : Array Value) : Begins (.ref a) (ItO k a) (fun h => ObK k h a its) := by
  cases k with
  | true => exact begins_tuple a its
  | false => exact begins_list a its
theorem ito_it {k : Bool} {h : Heap} {i a : Addr} (e : h.get? i = some (ItO k a)) : ItK k h i a 0 := by
  cases k <;> exact ⟨_, e, rfl, rfl⟩
/-- two, side by side -/
def ItzK (k l : Bool) (K : PySem.W.Frag) (a b : Addr) : It where
  go n H := ∃ (xs ys : List V) (x y : V), SqK k K H a xs ∧ SqK l K H b ys ∧ xs[n]? = some x ∧ ys[n]? = some y
  yld n H v H' := ∃ T x y, v = .ref T ∧ H T = none ∧ H' = upd H T (.tup [x, y]) ∧ (∀ xs, SqK k K H a xs → xs[n]? = some x) ∧ ∀ ys, SqK l K H b ys → ys[n]? = some y
  stop n H := ∃ xs ys : List V, SqK k K H a xs ∧ SqK l K H b ys ∧ (xs.length ≤ n ∨ ys.length ≤ n)
theorem turn_zipK {P : Program} {w : World} {K : PySem.W.Frag} {es : List Expr} {j : Nat} {tp : Pos} (k l : Bool) {a b z TI TO i1 i2 : Addr} (Z : ZipSep2 z TI TO i1 i2 [i1, a] [i2, b]) (na : a ≠ i1) (nb : b ≠ i2) (n12 : i1 ≠ i2) :
    Turn P w K (.Tuple es j tp) (ItzK k l K a b) [z, TI, TO, i1, i2] z (fun n h => IsZip h z TI TO .none ∧ IsTupOf2 h TI (.ref i1) (.ref i2) ∧ (∃ x y, IsTupOf2 h TO x y) ∧ ItK k h i1 a n ∧ ItK l h i2 b n) where
  mem := List.mem_cons_self ..
  obj := fun n h st c hc => by
    obtain ⟨h1, h2, ⟨x, y, h3⟩, h4, h5⟩ := st
    simp only [List.mem_cons, List.not_mem_nil, or_false] at hc
    rcases hc with rfl | rfl | rfl | rfl | rfl
    · exact ⟨_, h1, fun v q => nomatch q⟩
    · exact ⟨_, h2, fun v q => nomatch q⟩
    · exact ⟨_, h3, fun v q => nomatch q⟩
    · exact itk_live h4
    · exact itk_live h5
  keep := fun n h h' st kp => by
    obtain ⟨h1, h2, ⟨x, y, h3⟩, h4, h5⟩ := st
    exact ⟨kp z (by simp) _ h1, kp TI (by simp) _ h2, ⟨x, y, kp TO (by simp) _ h3⟩, itk_keep h4 fun o e => kp i1 (by simp) o e, itk_keep h5 fun o e => kp i2 (by simp) o e⟩
  item := by
    intro X hP hw hK hc n pins s σ H E I hf st hg
    subst hP hw hK
    obtain ⟨h1, h2, ⟨x0, y0, h3⟩, h4, h5⟩ := st
    obtain ⟨xs, ys, x, y, q1, q2, hx, hy⟩ := hg
    obtain ⟨is1, rv1, p1, z1⟩ := sqk_inv I q1
    obtain ⟨is2, rv2, p2, z2⟩ := sqk_inv I q2
    obtain ⟨u1, hu1, ru1⟩ := rv1.get hx
    obtain ⟨u2, hu2, ru2⟩ := rv2.get hy
    have lt1 : n < is1.toArray.size := by simpa using (List.getElem?_eq_some_iff.mp hu1).1
    have lt2 : n < is2.toArray.size := by simpa using (List.getElem?_eq_some_iff.mp hu2).1
    refine wpAny_pyNext_zipD2_item Z (draws_k (prog := X.prog) (w := X.w) (A := X.A.in1) k (I.ok.hd hc) i1 a na is1.toArray) (draws_k (prog := X.prog) (w := X.w) (A := X.A.in1) l (I.ok.hd hc) i2 b nb is2.toArray) h1 h2 h3 ⟨h4, p1⟩ ⟨h5, p2⟩ lt1 lt2 fun w1 w2 h' tk e1 e2 hz hto hs1 hs2 hT hsz hk => ?_
    have ew1 : w1 = u1 := by
      have q : some w1 = some u1 := e1.symm.trans (by simpa using hu1)
      exact Option.some.inj q
    have ew2 : w2 = u2 := by
      have q : some w2 = some u2 := e2.symm.trans (by simpa using hu2)
      exact Option.some.inj q
    subst ew1 ew2
    refine ⟨_, rfl, wpAny_letOwnedTupleGo_zip (s := { s with heap := h', toks := tk }) hz fun h2' he2 sb => ?_⟩
    have cz : z < s.heap.objs.size := Heap.lt_size h1
    have c1 : i1 < s.heap.objs.size := by obtain ⟨_, q, _⟩ := itk_live h4; exact Heap.lt_size q
    have c2 : i2 < s.heap.objs.size := by obtain ⟨_, q, _⟩ := itk_live h5; exact Heap.lt_size q
    have cTI : TI < s.heap.objs.size := Heap.lt_size h2
    have cTO : TO < s.heap.objs.size := Heap.lt_size h3
    have hT2 : h2'.get? s.heap.objs.size = some { cls := .type "tuple", data := .seq #[w1, w2] } := (sb.2 _ (Nat.ne_of_gt cz)).trans hT
    have new : ObjOk X.prog X.w (upd H s.heap.objs.size (.tup [x, y])) h2' s.heap.objs.size (.tup [x, y]) :=
      ⟨by show 2 ≤ sizeLine; decide, [w1, w2], .cons ru1 (.cons ru2 .nil), ⟨_, hT2, rfl, _, rfl⟩⟩
    have I1 : Inv X pins σ (upd H s.heap.objs.size (.tup [x, y])) { s with heap := h2', toks := tk } :=
      I.turnedNew (ch := [z, TO, i1, i2]) (fun c o hb q => (sb.2 c (fun e => hb (by simp [e]))).trans (hk c o (fun e => hb (by simp [e])) (fun e => hb (by simp [e])) (fun e => hb (by simp [e])) (fun e => hb (by simp [e])) q))
        (fun c hb => hf c (by simp only [List.mem_cons, List.not_mem_nil, or_false] at hb ⊢; rcases hb with h | h | h | h <;> simp [h])) (Nat.le_refl _) new
    have nz1 : i1 ≠ z := fun e => Z.zf1 (by rw [← e]; simp)
    have nz2 : i2 ≠ z := fun e => Z.zf2 (by rw [← e]; simp)
    refine ⟨.ref s.heap.objs.size, _, I1, rfl, ⟨_, x, y, rfl, I.hok.fresh (Nat.le_refl _), rfl, fun us h => by rw [sqk_inj I h q1]; exact hx, fun us h => by rw [sqk_inj I h q2]; exact hy⟩, ⟨he2, ?_, ?_, ?_, ?_⟩, fun c hb => ?_⟩
    · exact (sb.2 TI Z.TIz).trans (hk TI _ Z.TIz Z.TITO Z.TIi1 Z.TIi2 h2)
    · exact ⟨_, _, (sb.2 TO Z.TOz).trans hto⟩
    · exact itk_keep hs1.1 fun o q => (sb.2 i1 nz1).trans q
    · exact itk_keep hs2.1 fun o q => (sb.2 i2 nz2).trans q
    · have hb' : c < s.heap.objs.size := by
        simp only [List.mem_cons, List.not_mem_nil, or_false] at hb
        rcases hb with rfl | rfl | rfl | rfl | rfl <;> assumption
      rw [upd_ne (Nat.ne_of_lt hb')]
      exact (hf c hb).1
  done := by
    intro X hP hw hK hc n pins s σ H E I hf st hg
    subst hP hw hK
    obtain ⟨h1, h2, ⟨x0, y0, h3⟩, h4, h5⟩ := st
    obtain ⟨xs, ys, q1, q2, hl⟩ := hg
    obtain ⟨is1, rv1, p1, z1⟩ := sqk_inv I q1
    obtain ⟨is2, rv2, p2, z2⟩ := sqk_inv I q2
    have l1 := rv1.length
    have l2 := rv2.length
    have fin : ∀ (h' : Heap) (tk : Nat), (∀ (c : Addr) (o : Obj), c ≠ z → c ≠ TO → c ≠ i1 → c ≠ i2 → s.heap.get? c = some o → h'.get? c = some o) → (none : Option Value) = none ∧ Inv X pins σ H { s with heap := h', toks := tk } := fun h' tk hk => ⟨rfl, I.turnedL (ch := [z, TO, i1, i2]) (fun c o hb q => hk c o (fun e => hb (by simp [e])) (fun e => hb (by simp [e])) (fun e => hb (by simp [e])) (fun e => hb (by simp [e])) q) (fun c hb => hf c (by simp only [List.mem_cons, List.not_mem_nil, or_false] at hb ⊢; rcases hb with h | h | h | h <;> simp [h]))⟩
    by_cases e1 : is1.length ≤ n
    · by_cases e2 : is2.length ≤ n
      · exact wpAny_pyNext_zipD2_end Z (draws_e (prog := X.prog) (w := X.w) (A := X.A.in1) k (I.ok.hd hc) i1 a n is1.toArray (by simpa using e1)) (draws_e (prog := X.prog) (w := X.w) (A := X.A.in1) l (I.ok.hd hc) i2 b n is2.toArray (by simpa using e2)) h1 h2 h3 ⟨rfl, h4, p1⟩ ⟨rfl, h5, p2⟩ (Nat.le_refl _) (Nat.le_refl _) (.inl rfl) fin
      · exact wpAny_pyNext_zipD2_end Z (draws_e (prog := X.prog) (w := X.w) (A := X.A.in1) k (I.ok.hd hc) i1 a n is1.toArray (by simpa using e1)) (draws_k (prog := X.prog) (w := X.w) (A := X.A.in1) l (I.ok.hd hc) i2 b nb is2.toArray) h1 h2 h3 ⟨rfl, h4, p1⟩ ⟨h5, p2⟩ (Nat.le_refl _) (show n ≤ is2.length by omega) (.inl rfl) fin
    · have e2 : is2.length ≤ n := by omega
      exact wpAny_pyNext_zipD2_end Z (draws_k (prog := X.prog) (w := X.w) (A := X.A.in1) k (I.ok.hd hc) i1 a na is1.toArray) (draws_e (prog := X.prog) (w := X.w) (A := X.A.in1) l (I.ok.hd hc) i2 b n is2.toArray (by simpa using e2)) h1 h2 h3 ⟨h4, p1⟩ ⟨rfl, h5, p2⟩ (show n ≤ is1.length by omega) (Nat.le_refl _) (.inr rfl) fin
  self := fun A n s Q E st h => wpAny_pyIter_zip st.1 h
def iZipK (K : PySem.W.Frag) (ta : TA) : TI := fun σ H R => ta σ H fun vs H1 => ∃ (k l : Bool) (a b : Addr) (xs ys : List V), vs = [.ref a, .ref b] ∧ SqK k K H1 a xs ∧ SqK l K H1 b ys ∧ R (ItzK k l K a b) H1
theorem pi_zipK {X : Cx} {e e2 : Expr} {ta : TA} {p pos tp : Pos} {es : List Expr} {j : Nat} (hg : Gl X "zip") (hm : X.mg "zip" = none) (ha : PA X [e, e2] ta) (hs : starEach [e, e2] X.env = (false, eval e X.env) :: starEach [e2] X.env := by rfl)
    (hpl : (backTo pos (starEach [e2] X.env)).any (·.1) = false := by rfl) : PI X (.Tuple es j tp) (.Call (.Name "zip" p) [e, e2] [] pos) (iZipK X.K ta) := by
  refine ⟨fun pins s σ H R I h => ?_⟩
  refine Call_ (ld_blt I hg hm boot_zip (PyProof.Rows.callWith_type1 (thn (ha.run pos pins s σ H _ I h) fun us s1 ⟨vs, H1, I1, r1, q1⟩ => ?_) hs hpl))
  obtain ⟨k, l, a, b, xs, ys, ex, hq1, hq2, q⟩ := q1
  subst ex
  cases r1 with
  | cons r rr =>
    cases rr with
    | cons r2 rr2 =>
      cases rr2
      cases r
      cases r2
      obtain ⟨is1, rv1, p1, z1⟩ := sqk_inv I1 hq1
      obtain ⟨is2, rv2, p2, z2⟩ := sqk_inv I1 hq2
      refine zip_begins2 (begins_k k a is1.toArray) (begins_k l b is2.toArray) p1 p2 fun h1 hz hti hto e1 e2 hsz hk => wpAny_pyIter_zip hz ?_
      have I2 : Inv X pins σ H1 { s1 with heap := h1 } := I1.kept (t' := s1.toks) hk
      refine ⟨s1.heap.objs.size + 4, [s1.heap.objs.size + 4, s1.heap.objs.size + 2, s1.heap.objs.size + 3, s1.heap.objs.size, s1.heap.objs.size + 1], _, _, H1, rfl, I2,
        turn_zipK k l (zip_sep2 (N := s1.heap.objs.size) (fp1 := [a]) (fp2 := [b]) (fun c hc => by simp at hc; rw [hc]; exact z1) (fun c hc => by simp at hc; rw [hc]; exact z2)) (Nat.ne_of_lt z1) (Nat.ne_of_lt (Nat.lt_succ_of_lt z2)) (by simp),
        ⟨hz, hti, ⟨_, _, hto⟩, ito_it e1, ito_it e2⟩, fun c hc => ?_, q⟩
      have hle : s1.heap.objs.size ≤ c := by
        simp only [List.mem_cons, List.not_mem_nil, or_false] at hc
        rcases hc with rfl | rfl | rfl | rfl | rfl <;> first | exact Nat.le_refl _ | exact Nat.le_add_right _ _
      exact I1.fpOk hle (I1.hok.fresh hle)
/-! three -/
def ItzK3 (k l m : Bool) (K : PySem.W.Frag) (a b c : Addr) : It where
  go n H := ∃ (xs ys zs : List V) (x y z : V), SqK k K H a xs ∧ SqK l K H b ys ∧ SqK m K H c zs ∧ xs[n]? = some x ∧ ys[n]? = some y ∧ zs[n]? = some z
  yld n H v H' := ∃ T x y z, v = .ref T ∧ H T = none ∧ H' = upd H T (.tup [x, y, z]) ∧ (∀ xs, SqK k K H a xs → xs[n]? = some x) ∧ (∀ ys, SqK l K H b ys → ys[n]? = some y) ∧ ∀ zs, SqK m K H c zs → zs[n]? = some z
  stop n H := ∃ xs ys zs : List V, SqK k K H a xs ∧ SqK l K H b ys ∧ SqK m K H c zs ∧ (xs.length ≤ n ∨ ys.length ≤ n ∨ zs.length ≤ n)
theorem turn_zipK3 {P : Program} {w : World} {K : PySem.W.Frag} {es : List Expr} {j : Nat} {tp : Pos} (k l m : Bool) {a b c z TI TO i1 i2 i3 : Addr} (Z : ZipSep3 z TI TO i1 i2 i3 [i1, a] [i2, b] [i3, c]) (na : a ≠ i1) (nb : b ≠ i2) (nc : c ≠ i3) :
    Turn P w K (.Tuple es j tp) (ItzK3 k l m K a b c) [z, TI, TO, i1, i2, i3] z (fun n h => IsZip h z TI TO .none ∧ IsTupOf3 h TI (.ref i1) (.ref i2) (.ref i3) ∧ (∃ x y u, IsTupOf3 h TO x y u) ∧ ItK k h i1 a n ∧ ItK l h i2 b n ∧ ItK m h i3 c n) where
  mem := List.mem_cons_self ..
  obj := fun n h st c hc => by
    obtain ⟨h1, h2, ⟨x, y, u, h3⟩, h4, h5, h6⟩ := st
    simp only [List.mem_cons, List.not_mem_nil, or_false] at hc
    rcases hc with rfl | rfl | rfl | rfl | rfl | rfl
    · exact ⟨_, h1, fun v q => nomatch q⟩
    · exact ⟨_, h2, fun v q => nomatch q⟩
    · exact ⟨_, h3, fun v q => nomatch q⟩
    · exact itk_live h4
    · exact itk_live h5
    · exact itk_live h6
  keep := fun n h h' st kp => by
    obtain ⟨h1, h2, ⟨x, y, u, h3⟩, h4, h5, h6⟩ := st
    exact ⟨kp z (by simp) _ h1, kp TI (by simp) _ h2, ⟨x, y, u, kp TO (by simp) _ h3⟩, itk_keep h4 fun o e => kp i1 (by simp) o e, itk_keep h5 fun o e => kp i2 (by simp) o e, itk_keep h6 fun o e => kp i3 (by simp) o e⟩
  item := by
    intro X hP hw hK hc n pins s σ H E I hf st hg
    subst hP hw hK
    obtain ⟨h1, h2, ⟨x0, y0, u0, h3⟩, h4, h5, h6⟩ := st
    obtain ⟨xs, ys, zs, x, y, u, q1, q2, q3, hx, hy, hu⟩ := hg
    obtain ⟨is1, rv1, p1, z1⟩ := sqk_inv I q1
    obtain ⟨is2, rv2, p2, z2⟩ := sqk_inv I q2
    obtain ⟨is3, rv3, p3, z3⟩ := sqk_inv I q3
    obtain ⟨u1, hu1, ru1⟩ := rv1.get hx
    obtain ⟨u2, hu2, ru2⟩ := rv2.get hy
    obtain ⟨u3, hu3, ru3⟩ := rv3.get hu
    have lt1 : n < is1.toArray.size := by simpa using (List.getElem?_eq_some_iff.mp hu1).1
    have lt2 : n < is2.toArray.size := by simpa using (List.getElem?_eq_some_iff.mp hu2).1
    have lt3 : n < is3.toArray.size := by simpa using (List.getElem?_eq_some_iff.mp hu3).1
    refine wpAny_pyNext_zipD3_item Z (draws_k (prog := X.prog) (w := X.w) (A := X.A.in1) k (I.ok.hd hc) i1 a na is1.toArray) (draws_k (prog := X.prog) (w := X.w) (A := X.A.in1) l (I.ok.hd hc) i2 b nb is2.toArray) (draws_k (prog := X.prog) (w := X.w) (A := X.A.in1) m (I.ok.hd hc) i3 c nc is3.toArray) h1 h2 h3 ⟨h4, p1⟩ ⟨h5, p2⟩ ⟨h6, p3⟩ lt1 lt2 lt3 fun w1 w2 w3 h' tk e1 e2 e3 hz hto hs1 hs2 hs3 hT hsz hk => ?_
    have ew1 : w1 = u1 := by
      have q : some w1 = some u1 := e1.symm.trans (by simpa using hu1)
      exact Option.some.inj q
    have ew2 : w2 = u2 := by
      have q : some w2 = some u2 := e2.symm.trans (by simpa using hu2)
      exact Option.some.inj q
    have ew3 : w3 = u3 := by
      have q : some w3 = some u3 := e3.symm.trans (by simpa using hu3)
      exact Option.some.inj q
    subst ew1 ew2 ew3
    refine ⟨_, rfl, wpAny_letOwnedTupleGo_zip (s := { s with heap := h', toks := tk }) hz fun h2' he2 sb => ?_⟩
    have cz : z < s.heap.objs.size := Heap.lt_size h1
    have c1 : i1 < s.heap.objs.size := by obtain ⟨_, q, _⟩ := itk_live h4; exact Heap.lt_size q
    have c2 : i2 < s.heap.objs.size := by obtain ⟨_, q, _⟩ := itk_live h5; exact Heap.lt_size q
    have c3 : i3 < s.heap.objs.size := by obtain ⟨_, q, _⟩ := itk_live h6; exact Heap.lt_size q
    have cTI : TI < s.heap.objs.size := Heap.lt_size h2
    have cTO : TO < s.heap.objs.size := Heap.lt_size h3
    have hT2 : h2'.get? s.heap.objs.size = some { cls := .type "tuple", data := .seq #[w1, w2, w3] } := (sb.2 _ (Nat.ne_of_gt cz)).trans hT
    have new : ObjOk X.prog X.w (upd H s.heap.objs.size (.tup [x, y, u])) h2' s.heap.objs.size (.tup [x, y, u]) :=
      ⟨by show 3 ≤ sizeLine; decide, [w1, w2, w3], .cons ru1 (.cons ru2 (.cons ru3 .nil)), ⟨_, hT2, rfl, _, rfl⟩⟩
    have I1 : Inv X pins σ (upd H s.heap.objs.size (.tup [x, y, u])) { s with heap := h2', toks := tk } :=
      I.turnedNew (ch := [z, TO, i1, i2, i3]) (fun c o hb q => (sb.2 c (fun e => hb (by simp [e]))).trans (hk c o (fun e => hb (by simp [e])) (fun e => hb (by simp [e])) (fun e => hb (by simp [e])) (fun e => hb (by simp [e])) (fun e => hb (by simp [e])) q))
        (fun c hb => hf c (by simp only [List.mem_cons, List.not_mem_nil, or_false] at hb ⊢; rcases hb with h | h | h | h | h <;> simp [h])) (Nat.le_refl _) new
    have nz1 : i1 ≠ z := fun e => Z.zf1 (by rw [← e]; simp)
    have nz2 : i2 ≠ z := fun e => Z.zf2 (by rw [← e]; simp)
    have nz3 : i3 ≠ z := fun e => Z.zf3 (by rw [← e]; simp)
    refine ⟨.ref s.heap.objs.size, _, I1, rfl, ⟨_, x, y, u, rfl, I.hok.fresh (Nat.le_refl _), rfl, fun us h => by rw [sqk_inj I h q1]; exact hx, fun us h => by rw [sqk_inj I h q2]; exact hy, fun us h => by rw [sqk_inj I h q3]; exact hu⟩, ⟨he2, ?_, ?_, ?_, ?_, ?_⟩, fun c hb => ?_⟩
    · exact (sb.2 TI Z.TIz).trans (hk TI _ Z.TIz Z.TITO Z.TIi1 Z.TIi2 Z.TIi3 h2)
    · exact ⟨_, _, _, (sb.2 TO Z.TOz).trans hto⟩
    · exact itk_keep hs1.1 fun o q => (sb.2 i1 nz1).trans q
    · exact itk_keep hs2.1 fun o q => (sb.2 i2 nz2).trans q
    · exact itk_keep hs3.1 fun o q => (sb.2 i3 nz3).trans q
    · have hb' : c < s.heap.objs.size := by
        simp only [List.mem_cons, List.not_mem_nil, or_false] at hb
        rcases hb with rfl | rfl | rfl | rfl | rfl | rfl <;> assumption
      rw [upd_ne (Nat.ne_of_lt hb')]
      exact (hf c hb).1
  done := by
    intro X hP hw hK hc n pins s σ H E I hf st hg
    subst hP hw hK
    obtain ⟨h1, h2, ⟨x0, y0, u0, h3⟩, h4, h5, h6⟩ := st
    obtain ⟨xs, ys, zs, q1, q2, q3, hl⟩ := hg
    obtain ⟨is1, rv1, p1, z1⟩ := sqk_inv I q1
    obtain ⟨is2, rv2, p2, z2⟩ := sqk_inv I q2
    obtain ⟨is3, rv3, p3, z3⟩ := sqk_inv I q3
    have l1 := rv1.length
    have l2 := rv2.length
    have l3 := rv3.length
    have fin : ∀ (h' : Heap) (tk : Nat), (∀ (c : Addr) (o : Obj), c ≠ z → c ≠ TO → c ≠ i1 → c ≠ i2 → c ≠ i3 → s.heap.get? c = some o → h'.get? c = some o) → (none : Option Value) = none ∧ Inv X pins σ H { s with heap := h', toks := tk } := fun h' tk hk => ⟨rfl, I.turnedL (ch := [z, TO, i1, i2, i3]) (fun c o hb q => hk c o (fun e => hb (by simp [e])) (fun e => hb (by simp [e])) (fun e => hb (by simp [e])) (fun e => hb (by simp [e])) (fun e => hb (by simp [e])) q) (fun c hb => hf c (by simp only [List.mem_cons, List.not_mem_nil, or_false] at hb ⊢; rcases hb with h | h | h | h | h <;> simp [h]))⟩
    -- each one: at its end, or not yet
    have alt : ∀ (k : Bool) (i a : Addr) (ne : a ≠ i) (is : List Value), ItK k s.heap i a n → ObK k s.heap a is.toArray → ∃ (N : Nat) (P : Nat → Value → Prop) (St : Nat → Heap → Prop), Draws X.prog X.w X.A.in1 i [i, a] N P St ∧ St n s.heap ∧ n ≤ N ∧ (is.length ≤ n → n = N) := fun k i a ne is t o => by
      by_cases e : is.length ≤ n
      · exact ⟨n, _, _, draws_e (prog := X.prog) (w := X.w) (A := X.A.in1) k (I.ok.hd hc) i a n is.toArray (by simpa using e), ⟨rfl, t, o⟩, Nat.le_refl _, fun _ => rfl⟩
      · exact ⟨_, _, _, draws_k (prog := X.prog) (w := X.w) (A := X.A.in1) k (I.ok.hd hc) i a ne is.toArray, ⟨t, o⟩, (show n ≤ is.length by omega), fun z => absurd z e⟩
    obtain ⟨N1, P1, S1, d1, s1, n1, e1⟩ := alt k i1 a na is1 h4 p1
    obtain ⟨N2, P2, S2, d2, s2, n2, e2⟩ := alt l i2 b nb is2 h5 p2
    obtain ⟨N3, P3, S3, d3, s3, n3, e3⟩ := alt m i3 c nc is3 h6 p3
    refine wpAny_pyNext_zipD3_end Z d1 d2 d3 h1 h2 h3 s1 s2 s3 n1 n2 n3 ?_ fin
    rcases hl with h | h | h
    · exact .inl (e1 (by omega))
    · exact .inr (.inl (e2 (by omega)))
    · exact .inr (.inr (e3 (by omega)))
  self := fun A n s Q E st h => wpAny_pyIter_zip st.1 h
def iZipK3 (K : PySem.W.Frag) (ta : TA) : TI := fun σ H R => ta σ H fun vs H1 => ∃ (k l m : Bool) (a b c : Addr) (xs ys zs : List V), vs = [.ref a, .ref b, .ref c] ∧ SqK k K H1 a xs ∧ SqK l K H1 b ys ∧ SqK m K H1 c zs ∧ R (ItzK3 k l m K a b c) H1
theorem pi_zipK3 {X : Cx} {e e2 e3 : Expr} {ta : TA} {p pos tp : Pos} {es : List Expr} {j : Nat} (hg : Gl X "zip") (hm : X.mg "zip" = none) (ha : PA X [e, e2, e3] ta) (hs : starEach [e, e2, e3] X.env = (false, eval e X.env) :: starEach [e2, e3] X.env := by rfl)
    (hpl : (backTo pos (starEach [e2, e3] X.env)).any (·.1) = false := by rfl) : PI X (.Tuple es j tp) (.Call (.Name "zip" p) [e, e2, e3] [] pos) (iZipK3 X.K ta) := by
  refine ⟨fun pins s σ H R I h => ?_⟩
  refine Call_ (ld_blt I hg hm boot_zip (PyProof.Rows.callWith_type1 (thn (ha.run pos pins s σ H _ I h) fun us s1 ⟨vs, H1, I1, r1, q1⟩ => ?_) hs hpl))
  obtain ⟨k, l, m, a, b, c, xs, ys, zs, ex, hq1, hq2, hq3, q⟩ := q1
  subst ex
  cases r1 with
  | cons r rr =>
    cases rr with
    | cons r2 rr2 =>
      cases rr2 with
      | cons r3 rr3 =>
        cases rr3
        cases r
        cases r2
        cases r3
        obtain ⟨is1, rv1, p1, z1⟩ := sqk_inv I1 hq1
        obtain ⟨is2, rv2, p2, z2⟩ := sqk_inv I1 hq2
        obtain ⟨is3, rv3, p3, z3⟩ := sqk_inv I1 hq3
        refine zip_begins3 (begins_k k a is1.toArray) (begins_k l b is2.toArray) (begins_k m c is3.toArray) p1 p2 p3 fun h1 hz hti hto e1 e2 e3 hsz hk => wpAny_pyIter_zip hz ?_
        have I2 : Inv X pins σ H1 { s1 with heap := h1 } := I1.kept (t' := s1.toks) hk
        refine ⟨s1.heap.objs.size + 5, [s1.heap.objs.size + 5, s1.heap.objs.size + 3, s1.heap.objs.size + 4, s1.heap.objs.size, s1.heap.objs.size + 1, s1.heap.objs.size + 2], _, _, H1, rfl, I2,
          turn_zipK3 k l m (zip_sep3 (N := s1.heap.objs.size) (fp1 := [a]) (fp2 := [b]) (fp3 := [c]) (fun d hc => by simp at hc; rw [hc]; exact z1) (fun d hc => by simp at hc; rw [hc]; exact z2) (fun d hc => by simp at hc; rw [hc]; exact z3)) (Nat.ne_of_lt z1) (Nat.ne_of_lt (Nat.lt_succ_of_lt z2)) (Nat.ne_of_lt (Nat.lt_succ_of_lt (Nat.lt_succ_of_lt z3))),
          ⟨hz, hti, ⟨_, _, _, hto⟩, ito_it e1, ito_it e2, ito_it e3⟩, fun c hc => ?_, q⟩
        have hle : s1.heap.objs.size ≤ c := by
          simp only [List.mem_cons, List.not_mem_nil, or_false] at hc
          rcases hc with rfl | rfl | rfl | rfl | rfl | rfl <;> first | exact Nat.le_refl _ | exact Nat.le_add_right _ _
        exact I1.fpOk hle (I1.hok.fresh hle)
end Sd

/-! zip of two or three lists or tuples, over data. -/
namespace Sd
open PySem PySem.Spec PyProof.Rows L2
open Evl (Ex)
/-- the items of a list or a tuple -/
def seqD : D → Option (List D)
  | .list xs => some xs
  | .tuple xs => some xs
  | _ => none
@[simp] theorem seqD_l {xs : List D} : seqD (.list xs) = some xs := rfl
@[simp] theorem seqD_t {xs : List D} : seqD (.tuple xs) = some xs := rfl
@[simp] theorem seqD_tI {ns : List Int} : seqD (tI ns) = some (ns.map .int) := rfl
def iZipX (f g : M) : MA := fun δ => (f δ).bind fun p => (g p.2).bind fun q => (seqD p.1).bind fun xs => (seqD q.1).bind fun ys => some (zipD xs ys, q.2)
def zip3D : List D → List D → List D → List D
  | x :: xs, y :: ys, z :: zs => wP [x, y, z] :: zip3D xs ys zs
  | _, _, _ => []
theorem zip3D_len : ∀ xs ys zs : List D, (zip3D xs ys zs).length = min xs.length (min ys.length zs.length)
  | [], _, _ => by simp [zip3D]
  | _ :: _, [], _ => by simp [zip3D]
  | _ :: _, _ :: _, [] => by simp [zip3D]
  | _ :: xs, _ :: ys, _ :: zs => by simp only [zip3D, List.length_cons, zip3D_len xs ys zs]; omega
theorem zip3D_get : ∀ (xs ys zs : List D) (i : Nat) (d : D), (zip3D xs ys zs)[i]? = some d → ∃ x y z, xs[i]? = some x ∧ ys[i]? = some y ∧ zs[i]? = some z ∧ d = wP [x, y, z]
  | x :: _, y :: _, z :: _, 0, _, h => by cases h; exact ⟨x, y, z, rfl, rfl, rfl, rfl⟩
  | _ :: xs, _ :: ys, _ :: zs, i + 1, d, h => zip3D_get xs ys zs i d h
  | [], _, _, i, _, h => by simp [zip3D] at h
  | _ :: _, [], _, i, _, h => by simp [zip3D] at h
  | _ :: _, _ :: _, [], i, _, h => by simp [zip3D] at h
def iZip3 (f g h : M) : MA := fun δ => (f δ).bind fun p => (g p.2).bind fun q => (h q.2).bind fun r => (seqD p.1).bind fun xs => (seqD q.1).bind fun ys => (seqD r.1).bind fun zs => some (zip3D xs ys zs, r.2)
section
variable {QA : List D × DE → Prop} {f g h : M} {δ : DE}
@[simp] theorem wp_bind {α β : Type} {o : Option α} {k : α → Option β} {Q : β → Prop} : Wp (o.bind k) Q ↔ Wp o fun a => Wp (k a) Q := by cases o <;> simp
@[simp] theorem wp_iZipX : Wp (iZipX f g δ) QA ↔ Wp (f δ) fun p => Wp (g p.2) fun q => Wp (seqD p.1) fun xs => Wp (seqD q.1) fun ys => QA (zipD xs ys, q.2) := by
  unfold iZipX
  simp
@[simp] theorem wp_iZip3 : Wp (iZip3 f g h δ) QA ↔ Wp (f δ) fun p => Wp (g p.2) fun q => Wp (h q.2) fun r => Wp (seqD p.1) fun xs => Wp (seqD q.1) fun ys => Wp (seqD r.1) fun zs => QA (zip3D xs ys zs, r.2) := by
  unfold iZip3
  simp
end
section
variable [TabSet]
theorem tri_new {S2 H2 : Hp} (x2 : Ex S2 H2) {T : Addr} {x y z : V} {d1 d2 d3 : D} (hT : H2 T = none) (h1 : Dq S2 x d1) (h2 : Dq S2 y d2) (h3 : Dq S2 z d3) : ∃ S3, Grow S2 H2 S3 (upd H2 T (.tup [x, y, z])) ∧ Dq S3 (.ref T) (wP [d1, d2, d3]) :=
  ⟨_, Grow.new x2 hT, .wt upd_same (dqa_ext (Grow.new x2 hT).s (.cons h1 (.cons h2 (.cons h3 .nil))))⟩
/-- a list or a tuple is one -/
theorem sqk_of {K : PySem.W.Frag} {S H : Hp} {v : V} {d : D} {xs : List D} (e : seqD d = some xs) (h : Dq S v d) (sub : ∀ b o, S b = some o → H b = some o) : ∃ (k : Bool) (a : Addr) (vs : List V), v = .ref a ∧ DqAll S vs xs ∧ ∀ S3 H3 : Hp, (∀ b o, S b = some o → S3 b = some o) → (∀ b o, S3 b = some o → H3 b = some o) → SqK k K H3 a vs := by
  cases d <;> simp only [seqD] at e <;> cases e
  · obtain ⟨a, vs, rfl, e1, d1⟩ := dq_list h
    exact ⟨false, a, vs, rfl, d1, fun S3 H3 x1 x2 => SqL.of (x2 _ _ (x1 _ _ e1))⟩
  · obtain ⟨a, vs, rfl, e1, d1⟩ := dq_tup h
    exact ⟨true, a, vs, rfl, d1, fun S3 H3 x1 x2 => Tp.sq (Tp.ext x2 (Tp.ext x1 e1))⟩
variable {X : Cx} {F : Fr} {a b c tg : Expr} {pos p : Pos} {f g h : M}
theorem i_zipX {pp tpos : Pos} {elts : List Expr} {kk : Nat} (hg : Gl X "zip" := by rfl) (hm : X.mg "zip" = none) (ha : PE X a (SE X.K F f)) (hb : PE X b (SE X.K F g)) (hs : starEach [a, b] X.env = (false, eval a X.env) :: starEach [b] X.env := by rfl)
    (hpl : (backTo pos (starEach [b] X.env)).any (·.1) = false := by rfl) (nb : starEach [b] X.env = (false, eval b X.env) :: starEach [] X.env := by rfl) : PI X (.Tuple elts kk tpos) (.Call (.Name "zip" pp) [a, b] [] pos) (SI X.K F (iZipX f g)) := by
  refine pi_of fun S δ ds δ' σ H R Rs hf q => ⟨_, pi_zipK hg hm (pa_cons ha (pa_cons hb pa_nil nb) hs) hs hpl, ?_⟩
  unfold iZipX at hf
  obtain ⟨⟨d1, δ1⟩, h1, hf⟩ := Option.bind_eq_some_iff.mp hf
  obtain ⟨⟨d2, δ2⟩, h2, hf⟩ := Option.bind_eq_some_iff.mp hf
  obtain ⟨xs, g1, hf⟩ := Option.bind_eq_some_iff.mp hf
  obtain ⟨ys, g2, hf⟩ := Option.bind_eq_some_iff.mp hf
  cases hf
  refine ⟨S, δ, _, _, Rs, h1, fun v S1 H1 s1 R1 q1 => ⟨S1, _, _, _, R1, h2, fun w S2 H2 s2 R2 q2 => ?_⟩⟩
  obtain ⟨k, p1, v1, rfl, d1, t1⟩ := sqk_of (K := X.K) g1 (dq_ext s2.s q1) R2.sub
  obtain ⟨l, p2, v2, rfl, d2, t2⟩ := sqk_of (K := X.K) g2 q2 R2.sub
  have l1 := dqa_len d1
  have l2 := dqa_len d2
  refine ⟨k, l, p1, p2, v1, v2, rfl, t1 _ _ (fun _ _ z => z) R2.sub, t2 _ _ (fun _ _ z => z) R2.sub, q _ S2 H2 (s1.trans s2) R2 ⟨fun i S3 H3 x1 x2 hi => ?_, fun i S3 H3 x H4 d x1 x2 hy hd => ?_, fun i S3 H3 x1 x2 hi => ?_⟩⟩
  · rw [zipD_len] at hi
    exact ⟨v1, v2, v1[i]'(by omega), v2[i]'(by omega), t1 _ _ x1 x2, t2 _ _ x1 x2, List.getElem?_eq_getElem _, List.getElem?_eq_getElem _⟩
  · obtain ⟨T, x, y, rfl, hT, rfl, k1, k2⟩ := hy
    obtain ⟨dx, dy, z1, z2, rfl⟩ := zipD_get _ _ _ _ hd
    exact pair_new x2 hT (dq_ext x1 (dqa_at d1 z1 (k1 _ (t1 _ _ x1 x2)))) (dq_ext x1 (dqa_at d2 z2 (k2 _ (t2 _ _ x1 x2))))
  · rw [zipD_len] at hi
    exact ⟨v1, v2, t1 _ _ x1 x2, t2 _ _ x1 x2, by omega⟩
theorem i_zip3 {pp tpos : Pos} {elts : List Expr} {kk : Nat} (hg : Gl X "zip" := by rfl) (hm : X.mg "zip" = none) (ha : PE X a (SE X.K F f)) (hb : PE X b (SE X.K F g)) (hc : PE X c (SE X.K F h)) (hs : starEach [a, b, c] X.env = (false, eval a X.env) :: starEach [b, c] X.env := by rfl)
    (hpl : (backTo pos (starEach [b, c] X.env)).any (·.1) = false := by rfl) (nb : starEach [b, c] X.env = (false, eval b X.env) :: starEach [c] X.env := by rfl) (nc : starEach [c] X.env = (false, eval c X.env) :: starEach [] X.env := by rfl) : PI X (.Tuple elts kk tpos) (.Call (.Name "zip" pp) [a, b, c] [] pos) (SI X.K F (iZip3 f g h)) := by
  refine pi_of fun S δ ds δ' σ H R Rs hf q => ⟨_, pi_zipK3 hg hm (pa_cons ha (pa_cons hb (pa_cons hc pa_nil nc) nb) hs) hs hpl, ?_⟩
  unfold iZip3 at hf
  obtain ⟨⟨d1, δ1⟩, h1, hf⟩ := Option.bind_eq_some_iff.mp hf
  obtain ⟨⟨d2, δ2⟩, h2, hf⟩ := Option.bind_eq_some_iff.mp hf
  obtain ⟨⟨d3, δ3⟩, h3, hf⟩ := Option.bind_eq_some_iff.mp hf
  obtain ⟨xs, g1, hf⟩ := Option.bind_eq_some_iff.mp hf
  obtain ⟨ys, g2, hf⟩ := Option.bind_eq_some_iff.mp hf
  obtain ⟨zs, g3, hf⟩ := Option.bind_eq_some_iff.mp hf
  cases hf
  refine ⟨S, δ, _, _, Rs, h1, fun v S1 H1 s1 R1 q1 => ⟨S1, _, _, _, R1, h2, fun w S2 H2 s2 R2 q2 => ⟨S2, _, _, _, R2, h3, fun u S3 H3 s3 R3 q3 => ?_⟩⟩⟩
  obtain ⟨k, p1, v1, rfl, d1, t1⟩ := sqk_of (K := X.K) g1 (dq_ext s3.s (dq_ext s2.s q1)) R3.sub
  obtain ⟨l, p2, v2, rfl, d2, t2⟩ := sqk_of (K := X.K) g2 (dq_ext s3.s q2) R3.sub
  obtain ⟨m, p3, v3, rfl, d3, t3⟩ := sqk_of (K := X.K) g3 q3 R3.sub
  have l1 := dqa_len d1
  have l2 := dqa_len d2
  have l3 := dqa_len d3
  refine ⟨k, l, m, p1, p2, p3, v1, v2, v3, rfl, t1 _ _ (fun _ _ z => z) R3.sub, t2 _ _ (fun _ _ z => z) R3.sub, t3 _ _ (fun _ _ z => z) R3.sub, q _ S3 H3 ((s1.trans s2).trans s3) R3 ⟨fun i S4 H4 x1 x2 hi => ?_, fun i S4 H4 x H5 d x1 x2 hy hd => ?_, fun i S4 H4 x1 x2 hi => ?_⟩⟩
  · rw [zip3D_len] at hi
    exact ⟨v1, v2, v3, v1[i]'(by omega), v2[i]'(by omega), v3[i]'(by omega), t1 _ _ x1 x2, t2 _ _ x1 x2, t3 _ _ x1 x2, List.getElem?_eq_getElem _, List.getElem?_eq_getElem _, List.getElem?_eq_getElem _⟩
  · obtain ⟨T, x, y, u, rfl, hT, rfl, k1, k2, k3⟩ := hy
    obtain ⟨dx, dy, du, z1, z2, z3, rfl⟩ := zip3D_get _ _ _ _ _ hd
    exact tri_new x2 hT (dq_ext x1 (dqa_at d1 z1 (k1 _ (t1 _ _ x1 x2)))) (dq_ext x1 (dqa_at d2 z2 (k2 _ (t2 _ _ x1 x2)))) (dq_ext x1 (dqa_at d3 z3 (k3 _ (t3 _ _ x1 x2))))
  · rw [zip3D_len] at hi
    exact ⟨v1, v2, v3, t1 _ _ x1 x2, t2 _ _ x1 x2, t3 _ _ x1 x2, by omega⟩
end
end Sd

/-! comprehensions with two fors. -/
namespace Sd
open PySem PySem.Spec PyProof.Rows L2
open Evl (Ex)
section
variable [TabSet]
variable {F : Fr}
/-- the inner walk, in one turn of the outer one -/
theorem lc2_inner {K : PySem.W.Frag} {gg : MG} {tf : MT} {f : M} {vs vs1 : List Nat} {Sb Hb : Hp} {σ : L2.St} {δb : DE} {Dl : Addr} (hbD : Hb Dl = none) (z1 : F.H0 Dl = none) (z2 : F.io ≠ some Dl) (nownD : ¬ Own σ δb Dl)
    {τ : L2.St} (cτ0 : ∀ j, j ∉ vs → τ[j]? = σ[j]?) (sub1 : ∀ i ∈ vs1, i ∈ vs) {J : It} {S1 H1 : Hp} {zs : List D} {δ3 δ4 : DE} {ys : List D} (hJ : Its J S1 zs) (R1 : RSt K F S1 H1 τ δ3) (no3 : ∀ (j : Nat) xs, δ3[j]? = some (.ow xs) → j ∉ vs)
    (s1 : Stp Sb Hb S1 H1 σ δb δ3) (hz : zs.length ≤ 100000) (hrun : cRun gg tf f vs1 zs (wipeD δ3 vs1) = some (ys, δ4))
    {acc0 : List V} {done0 : List D} (n1 : S1 Dl = none) (h1 : H1 Dl = some (.lst acc0)) (d0 : DqAll S1 acc0 done0) (lim : done0.length + ys.length ≤ 100000)
    {NX : Hp → Prop} (q : ∀ S' H' acc, RSt K F S' H' (wipe τ vs1) δ4 → Stp Sb Hb S' H' σ δb δ4 → (∀ (j : Nat) xs, δ4[j]? = some (.ow xs) → j ∉ vs) → S' Dl = none → H' Dl = some (.lst acc) → DqAll S' acc (done0 ++ ys) → NX H') :
    ∃ W1 : Nat → Nat → Hp → Prop, (∃ m, W1 0 m H1) ∧ ∀ (i m : Nat) (H : Hp), W1 i m H → J.stop i H ∧ NX H ∨ J.go i H ∧ ∃ Nx1 : Hp → Prop, (∀ H', Nx1 H' → ∃ m', m' < m ∧ W1 (i + 1) m' H') ∧ ∀ x H', J.yld i H x H' → SG K F vs1 gg x (wipe τ vs1) H' fun σ3 H5 => wipe σ3 vs1 = wipe τ vs1 ∧ ST K F tf σ3 H5 fun b H6 => if b = true then SE K F f σ3 H6 fun y H7 => ∃ acc, H7 Dl = some (.lst acc) ∧ acc.length < sizeLine ∧ Nx1 (upd H7 Dl (.lst (acc ++ [y]))) else Nx1 H6 := by
  refine ⟨fun i m H' => m = zs.length - i ∧ i ≤ zs.length ∧ ∃ S' δi acc done, RSt K F S' H' (wipe τ vs1) δi ∧ Stp Sb Hb S' H' σ δb δi ∧ Ex S1 S' ∧ (∀ (j : Nat) xs, δi[j]? = some (.ow xs) → j ∉ vs) ∧ S' Dl = none ∧ H' Dl = some (.lst acc) ∧ DqAll S' acc (done0 ++ done) ∧
    ∃ rest, cRun gg tf f vs1 (zs.drop i) δi = some (rest, δ4) ∧ done ++ rest = ys, ⟨zs.length, by omega, Nat.zero_le _, S1, wipeD δ3 vs1, acc0, [], ?_, ?_, Ex.refl _, ?_, n1, h1, by rw [List.append_nil]; exact d0, ys, hrun, rfl⟩, ?_⟩
  · exact R1.wipe (wipe_length τ vs1) (fun j hj => wipe_out hj) fun xs e hm => no3 _ xs e (sub1 _ hm)
  · refine ⟨s1.s, s1.out, s1.keep, s1.dom, fun i xs e => ?_, s1.tb⟩
    exact s1.kind i xs (wipe_ow e).2
  · intro j xs e
    exact no3 j xs (wipe_ow e).2
  · rintro i m H' ⟨rfl, hi, S', δi, acc, done, Ri, si, ei, noi, ni, hDi, da, rest, hr, hdone⟩
    have ownD : ∀ {ρ : L2.St} {δx : DE} {b : Addr}, (∀ j, j ∉ vs → ρ[j]? = σ[j]?) → (∀ (j : Nat) xs, δx[j]? = some (.ow xs) → (∃ ys, δi[j]? = some (.ow ys)) ∧ j ∉ vs) → Own ρ δx b → Own σ δb b := fun {ρ δx b} hρ hx o => by
      obtain ⟨j, xs, o1, o2⟩ := o
      obtain ⟨⟨ys, e1⟩, nj⟩ := hx j xs o1
      obtain ⟨ws, e2⟩ := si.kind j ys e1
      rw [hρ j nj] at o2
      exact ⟨j, ws, e2, o2⟩
    have cw : ∀ j, j ∉ vs → (wipe τ vs1)[j]? = σ[j]? := fun j hj => (wipe_out fun hm => hj (sub1 _ hm)).trans (cτ0 j hj)
    by_cases hlt : i < zs.length
    · refine .inr ⟨hJ.go i S' H' ei Ri.sub hlt, fun H'' => ∃ m', m' < zs.length - i ∧ (m' = zs.length - (i + 1) ∧ i + 1 ≤ zs.length ∧ ∃ S' δi acc done, RSt K F S' H'' (wipe τ vs1) δi ∧ Stp Sb Hb S' H'' σ δb δi ∧ Ex S1 S' ∧ (∀ (j : Nat) xs, δi[j]? = some (.ow xs) → j ∉ vs) ∧ S' Dl = none ∧ H'' Dl = some (.lst acc) ∧ DqAll S' acc (done0 ++ done) ∧
        ∃ rest, cRun gg tf f vs1 (zs.drop (i + 1)) δi = some (rest, δ4) ∧ done ++ rest = ys), fun H'' h => h, fun x H3 hy => ?_⟩
      obtain ⟨S3, g3, d3⟩ := hJ.yld i S' H' x H3 zs[i] ei Ri.sub hy (List.getElem?_eq_getElem hlt)
      rw [List.drop_eq_getElem_cons hlt] at hr
      simp only [cRun] at hr
      split at hr
      · rename_i δa ga
        have R3 := Ri.grow g3
        have n3 : S3 Dl = none := (g3.out Dl _ hDi).trans ni
        have h3 : H3 Dl = some (.lst acc) := g3.h Dl _ hDi nt_lst
        refine ⟨S3, δi, zs[i], δa, R3, d3, ga, fun ρ Rt lρ cρ oρ => ?_⟩
        rw [wipe_length] at lρ
        have cρ1 : ∀ j, j ∉ vs1 → ρ[j]? = τ[j]? := fun j hj => (cρ j hj).trans (wipe_out hj)
        have cρ' : ∀ j, j ∉ vs → ρ[j]? = σ[j]? := fun j hj => (cρ1 j fun hm => hj (sub1 _ hm)).trans (cτ0 j hj)
        have kA : ∀ (j : Nat) xs, δa[j]? = some (.ow xs) → (∃ ys, δi[j]? = some (.ow ys)) ∧ j ∉ vs := fun j xs e => ⟨⟨xs, (oρ j xs e).1⟩, noi j xs (oρ j xs e).1⟩
        have s13 : Stp Sb Hb S3 H3 σ δb δi := si.trans' (Stp.grow g3 (σ := wipe τ vs1) (δ := δi)) (fun b o => ownD cw (fun j xs e => ⟨⟨xs, e⟩, noi j xs e⟩) o) si.kind
        refine ⟨wipe_eq lρ cρ1, ?_⟩
        have nD : ∀ {δx : DE}, (∀ (j : Nat) xs, δx[j]? = some (.ow xs) → (∃ ys, δi[j]? = some (.ow ys)) ∧ j ∉ vs) → ¬ Own ρ δx Dl := fun hx o => nownD (ownD cρ' hx o)
        split at hr
        · rename_i δB tb
          refine ⟨S3, δa, true, δB, Rt, tb, fun S4 H4 s4 R4 => ?_⟩
          show ite (true = true) _ _
          rw [if_pos rfl]
          have kB : ∀ (j : Nat) xs, δB[j]? = some (.ow xs) → (∃ ys, δi[j]? = some (.ow ys)) ∧ j ∉ vs := fun j xs e => by
            obtain ⟨ys, e2⟩ := s4.kind j xs e
            exact kA j ys e2
          have n4 : S4 Dl = none := (s4.out Dl _ h3).trans n3
          have h4 : H4 Dl = some (.lst acc) := s4.keep Dl _ h3 nt_lst (nD kA)
          have s14 : Stp Sb Hb S4 H4 σ δb δB := s13.trans' s4 (fun b o => ownD cρ' kA o) fun j xs e => by
            obtain ⟨⟨ys, e2⟩, _⟩ := kB j xs e
            exact si.kind j ys e2
          split at hr
          · rename_i y δc tc
            refine ⟨S4, δB, y, δc, R4, tc, fun v S5 H5 s5 R5 d5 => ?_⟩
            have kC : ∀ (j : Nat) xs, δc[j]? = some (.ow xs) → (∃ ys, δi[j]? = some (.ow ys)) ∧ j ∉ vs := fun j xs e => by
              obtain ⟨ys, e2⟩ := s5.kind j xs e
              exact kB j ys e2
            have n5 : S5 Dl = none := (s5.out Dl _ h4).trans n4
            have h5 : H5 Dl = some (.lst acc) := s5.keep Dl _ h4 nt_lst (nD kB)
            have s15 : Stp Sb Hb S5 H5 σ δb δc := s14.trans' s5 (fun b o => ownD cρ' kB o) fun j xs e => by
              obtain ⟨⟨ys, e2⟩, _⟩ := kC j xs e
              exact si.kind j ys e2
            split at hr
            · rename_i ws δd tr
              cases hr
              have dacc : DqAll S5 acc (done0 ++ done) := dqa_ext (g3.s.trans (s4.s.trans s5.s)) da
              have lacc := dqa_len dacc
              have ll : (done0 ++ done).length < 100000 := by
                rw [← hdone] at lim
                simp only [List.length_append, List.length_cons] at lim ⊢
                omega
              refine ⟨acc, h5, Evl.sz_lt (by omega), zs.length - (i + 1), by omega, rfl, hlt, S5, wipeD δc vs1, acc ++ [v], done ++ [y], ?_, ?_, ei.trans (g3.s.trans (s4.s.trans s5.s)), ?_, n5, upd_same, by rw [← List.append_assoc]; exact dqa_app dacc (.cons d5 .nil), ws, tr, by rw [← hdone, List.append_assoc]; rfl⟩
              · exact (R5.free n5 h5 (nD kC) z1 z2).wipe (by rw [wipe_length, lρ]) (fun j hj => (wipe_out hj).trans (cρ1 j hj).symm) fun xs e hm => (kC _ xs e).2 (sub1 _ hm)
              · refine ⟨s15.s, s15.out, fun b o e nt n => ?_, fun b o e => ?_, fun j xs e => ?_, fun t => ⟨tabs_lst (s15.tb t).1 h5, (s15.tb t).2⟩⟩
                · rw [upd_ne (fun z => by rw [z, hbD] at e; cases e)]
                  exact s15.keep b o e nt n
                · rw [upd_ne (fun z => by rw [z, hbD] at e; cases e)]
                  exact s15.dom b o e
                · obtain ⟨_, e2⟩ := wipe_ow e
                  exact s15.kind j xs e2
              · exact fun j xs e => (kC j xs (wipe_ow e).2).2
            · cases hr
          · cases hr
        · rename_i δB tb
          refine ⟨S3, δa, false, δB, Rt, tb, fun S4 H4 s4 R4 => ?_⟩
          show ite (false = true) _ _
          rw [if_neg Bool.false_ne_true]
          have kB : ∀ (j : Nat) xs, δB[j]? = some (.ow xs) → (∃ ys, δi[j]? = some (.ow ys)) ∧ j ∉ vs := fun j xs e => by
            obtain ⟨ys, e2⟩ := s4.kind j xs e
            exact kA j ys e2
          have n4 : S4 Dl = none := (s4.out Dl _ h3).trans n3
          have h4 : H4 Dl = some (.lst acc) := s4.keep Dl _ h3 nt_lst (nD kA)
          have s14 : Stp Sb Hb S4 H4 σ δb δB := s13.trans' s4 (fun b o => ownD cρ' kA o) fun j xs e => by
            obtain ⟨⟨ys, e2⟩, _⟩ := kB j xs e
            exact si.kind j ys e2
          refine ⟨zs.length - (i + 1), by omega, rfl, hlt, S4, wipeD δB vs1, acc, done, ?_, ?_, ei.trans (g3.s.trans s4.s), ?_, n4, h4, dqa_ext (g3.s.trans s4.s) da, rest, hr, hdone⟩
          · exact R4.wipe (by rw [wipe_length, lρ]) (fun j hj => (wipe_out hj).trans (cρ1 j hj).symm) fun xs e hm => (kB _ xs e).2 (sub1 _ hm)
          · refine ⟨s14.s, s14.out, s14.keep, s14.dom, fun j xs e => ?_, s14.tb⟩
            obtain ⟨_, e2⟩ := wipe_ow e
            exact s14.kind j xs e2
          · exact fun j xs e => (kB j xs (wipe_ow e).2).2
        · cases hr
      · cases hr
    · refine .inl ⟨hJ.stop i S' H' ei Ri.sub (by omega), ?_⟩
      rw [List.drop_eq_nil_of_le (by omega)] at hr
      cases hr
      rw [List.append_nil] at hdone
      subst hdone
      exact q S' H' acc Ri si noi ni hDi da
omit [TabSet] in
def cRun2 (g : MG) (tf : MT) (it1 : MA) (g1 : MG) (tf1 : MT) (f : M) (vs vs1 : List Nat) : List D → DE → Option (List D × DE)
  | [], δ => some ([], δ)
  | d :: ds, δ => match g d δ with
    | some δ1 => match tf δ1 with
      | some (true, δ2) => match it1 δ2 with
        | some (zs, δ3) => if noOwn vs δ3 = true ∧ zs.length ≤ 100000 then match cRun g1 tf1 f vs1 zs (wipeD δ3 vs1) with
            | some (ys, δ4) => match cRun2 g tf it1 g1 tf1 f vs vs1 ds (wipeD δ4 vs) with
              | some (rest, δ5) => some (ys ++ rest, δ5)
              | none => none
            | none => none
          else none
        | none => none
      | some (false, δ2) => cRun2 g tf it1 g1 tf1 f vs vs1 ds (wipeD δ2 vs)
      | none => none
    | none => none
omit [TabSet] in
def lComp2 (it : MA) (g : MG) (tf : MT) (it1 : MA) (g1 : MG) (tf1 : MT) (f : M) (vs vs1 : List Nat) : MA := fun δ => match it δ with
  | some (ds, δ1) => if noOwn vs δ1 = true ∧ ds.length ≤ 100000 then match cRun2 g tf it1 g1 tf1 f vs vs1 ds (wipeD δ1 vs) with
      | some (ys, δ2) => if ys.length ≤ 100000 then some (ys, mergeD δ1 δ2 vs) else none
      | none => none
    else none
  | none => none
/-- the reading of a comprehension with two fors -/
theorem lc2_read {K : PySem.W.Frag} {it it1 : MA} {gg g1 : MG} {tf tf1 : MT} {f : M} {vs vs0 vs1 : List Nat} {S : Hp} {δ δ' : DE} {ds : List D} {σ : L2.St} {H : Hp} {Q : VK} (sub0 : ∀ i ∈ vs0, i ∈ vs) (sub1 : ∀ i ∈ vs1, i ∈ vs) (R : RSt K F S H σ δ) (hf : lComp2 it gg tf it1 g1 tf1 f vs vs1 δ = some (ds, δ'))
    (q : ∀ a us S' H', Stp S H S' H' σ δ δ' → RSt K F S' H' σ δ' → H a = none → S' a = none → H' a = some (.lst us) → DqAll S' us ds → Q (.ref a) H') : tLc2 (SI K F it) (SG K F vs0 gg) (ST K F tf) (SI K F it1) (SG K F vs1 g1) (ST K F tf1) (SE K F f) vs vs1 σ H Q := by
  unfold lComp2 at hf
  cases h1 : it δ with
  | none => rw [h1] at hf; cases hf
  | some p =>
    obtain ⟨zs, δ1⟩ := p
    rw [h1] at hf
    simp only at hf
    split at hf
    · rename_i hno
      obtain ⟨hno, hz⟩ := hno
      split at hf
      · rename_i ys δ2 hrun
        split at hf
        · rename_i hlim
          cases hf
          refine ⟨S, δ, zs, δ1, R, h1, fun J S1 H1 s1 R1 hJ => fun Dl hD => ?_⟩
          obtain ⟨R1', s1', n1⟩ := lay_fresh (o := .lst []) R1 hD
          have hH : H Dl = none := by
            cases hz : H Dl with
            | none => rfl
            | some o =>
              obtain ⟨o', q'⟩ := s1.dom Dl o hz
              rw [hD] at q'; cases q'
          obtain ⟨z1, z2⟩ := R1.frz hD
          have nownD : ¬ Own σ δ1 Dl := fun o => by
            obtain ⟨us, q', _⟩ := R1.own_in o
            rw [hD] at q'; cases q'
          refine ⟨fun i m H' => m = zs.length - i ∧ i ≤ zs.length ∧ ∃ S' δi acc done, RSt K F S' H' (wipe σ vs) δi ∧ Stp S1 H1 S' H' σ δ1 δi ∧ (∀ (j : Nat) xs, δi[j]? = some (.ow xs) → j ∉ vs) ∧ S' Dl = none ∧ H' Dl = some (.lst acc) ∧ DqAll S' acc done ∧
            ∃ rest, cRun2 gg tf it1 g1 tf1 f vs vs1 (zs.drop i) δi = some (rest, δ2) ∧ done ++ rest = ds, ⟨zs.length, by omega, Nat.zero_le _, S1, wipeD δ1 vs, [], [], ?_, ?_, ?_, n1, upd_same, .nil, ds, hrun, rfl⟩, ?_⟩
          · exact R1'.wipe (wipe_length σ vs) (fun j hj => wipe_out hj) fun xs e => noOwn_of hno e
          · refine ⟨s1'.s, s1'.out, s1'.keep, s1'.dom, fun i xs e => ⟨xs, (wipe_ow e).2⟩, s1'.tb⟩
          · exact fun j xs e => (wipe_ow e).1
          · rintro i m H' ⟨rfl, hi, S', δi, acc, done, Ri, si, noi, ni, hDi, da, rest, hr, hdone⟩
            have ownD : ∀ {τ : L2.St} {δx : DE} {b : Addr}, (∀ j, j ∉ vs → τ[j]? = σ[j]?) → (∀ (j : Nat) xs, δx[j]? = some (.ow xs) → (∃ ys, δi[j]? = some (.ow ys)) ∧ j ∉ vs) → Own τ δx b → Own σ δ1 b := fun {τ δx b} hτ hx o => by
              obtain ⟨j, xs, o1, o2⟩ := o
              obtain ⟨⟨ys, e1⟩, nj⟩ := hx j xs o1
              obtain ⟨ws, e2⟩ := si.kind j ys e1
              rw [hτ j nj] at o2
              exact ⟨j, ws, e2, o2⟩
            by_cases hlt : i < zs.length
            · refine .inr ⟨hJ.go i S' H' si.s Ri.sub hlt, fun H'' => ∃ m', m' < zs.length - i ∧ (m' = zs.length - (i + 1) ∧ i + 1 ≤ zs.length ∧ ∃ S' δi acc done, RSt K F S' H'' (wipe σ vs) δi ∧ Stp S1 H1 S' H'' σ δ1 δi ∧ (∀ (j : Nat) xs, δi[j]? = some (.ow xs) → j ∉ vs) ∧ S' Dl = none ∧ H'' Dl = some (.lst acc) ∧ DqAll S' acc done ∧
                ∃ rest, cRun2 gg tf it1 g1 tf1 f vs vs1 (zs.drop (i + 1)) δi = some (rest, δ2) ∧ done ++ rest = ds), fun H'' h => h, fun x H3 hy => ?_⟩
              obtain ⟨S3, g3, d3⟩ := hJ.yld i S' H' x H3 zs[i] si.s Ri.sub hy (List.getElem?_eq_getElem hlt)
              rw [List.drop_eq_getElem_cons hlt] at hr
              simp only [cRun2] at hr
              split at hr
              · rename_i δa ga
                have R3 := Ri.grow g3
                have n3 : S3 Dl = none := (g3.out Dl _ hDi).trans ni
                have h3 : H3 Dl = some (.lst acc) := g3.h Dl _ hDi nt_lst
                refine ⟨S3, δi, zs[i], δa, R3, d3, ga, fun τ Rt lτ cτ oτ => ?_⟩
                rw [wipe_length] at lτ
                have cτ' : ∀ j, j ∉ vs → τ[j]? = σ[j]? := fun j hj => (cτ j fun hm => hj (sub0 _ hm)).trans (wipe_out hj)
                have kA : ∀ (j : Nat) xs, δa[j]? = some (.ow xs) → (∃ ys, δi[j]? = some (.ow ys)) ∧ j ∉ vs := fun j xs e => ⟨⟨xs, (oτ j xs e).1⟩, noi j xs (oτ j xs e).1⟩
                have s13 : Stp S1 H1 S3 H3 σ δ1 δi := si.trans' (Stp.grow g3 (σ := wipe σ vs) (δ := δi)) (fun b o => ownD (fun j hj => wipe_out hj) (fun j xs e => ⟨⟨xs, e⟩, noi j xs e⟩) o) si.kind
                refine ⟨wipe_eq lτ cτ', ?_⟩
                have nD : ∀ {δx : DE}, (∀ (j : Nat) xs, δx[j]? = some (.ow xs) → (∃ ys, δi[j]? = some (.ow ys)) ∧ j ∉ vs) → ¬ Own τ δx Dl := fun hx o => nownD (ownD cτ' hx o)
                split at hr
                · rename_i δb tb
                  refine ⟨S3, δa, true, δb, Rt, tb, fun S4 H4 s4 R4 => ?_⟩
                  show ite (true = true) _ _
                  rw [if_pos rfl]
                  have kB : ∀ (j : Nat) xs, δb[j]? = some (.ow xs) → (∃ ys, δi[j]? = some (.ow ys)) ∧ j ∉ vs := fun j xs e => by
                    obtain ⟨ys, e2⟩ := s4.kind j xs e
                    exact kA j ys e2
                  have n4 : S4 Dl = none := (s4.out Dl _ h3).trans n3
                  have h4 : H4 Dl = some (.lst acc) := s4.keep Dl _ h3 nt_lst (nD kA)
                  have s14 : Stp S1 H1 S4 H4 σ δ1 δb := s13.trans' s4 (fun b o => ownD cτ' kA o) fun j xs e => by
                    obtain ⟨⟨ys, e2⟩, _⟩ := kB j xs e
                    exact si.kind j ys e2
                  split at hr
                  · rename_i ws δ3 ti
                    split at hr
                    · rename_i hin
                      obtain ⟨hno3, hzw⟩ := hin
                      split at hr
                      · rename_i us δ4 hinner
                        split at hr
                        · rename_i rs δ5 hrest
                          cases hr
                          refine ⟨S4, δb, ws, δ3, R4, ti, fun J1 S5 H5 s5 R5 hJ1 => ?_⟩
                          have kC : ∀ (j : Nat) xs, δ3[j]? = some (.ow xs) → (∃ ys, δi[j]? = some (.ow ys)) ∧ j ∉ vs := fun j xs e => by
                            obtain ⟨ys, e2⟩ := s5.kind j xs e
                            exact kB j ys e2
                          have n5 : S5 Dl = none := (s5.out Dl _ h4).trans n4
                          have h5 : H5 Dl = some (.lst acc) := s5.keep Dl _ h4 nt_lst (nD kB)
                          have s15 : Stp S1 H1 S5 H5 σ δ1 δ3 := s14.trans' s5 (fun b o => ownD cτ' kB o) fun j xs e => by
                            obtain ⟨⟨ys, e2⟩, _⟩ := kC j xs e
                            exact si.kind j ys e2
                          refine lc2_inner hD z1 z2 nownD cτ' sub1 hJ1 R5 (fun j xs e => (kC j xs e).2) s15 hzw hinner n5 h5 (dqa_ext (g3.s.trans (s4.s.trans s5.s)) da) (by rw [← hdone] at hlim; simp only [List.length_append] at hlim; omega) fun S6 H6 acc6 R6 s6 no6 n6 h6 d6 => ?_
                          refine ⟨zs.length - (i + 1), by omega, rfl, hlt, S6, wipeD δ4 vs, acc6, done ++ us, ?_, ?_, ?_, n6, h6, d6, rs, hrest, by rw [← hdone, List.append_assoc]⟩
                          · exact R6.wipe (by rw [wipe_length, wipe_length, lτ]) (fun j hj => (wipe_out hj).trans ((cτ' j hj).symm.trans (wipe_out fun hm => hj (sub1 _ hm)).symm)) fun xs e => no6 _ xs e
                          · refine ⟨s6.s, s6.out, s6.keep, s6.dom, fun j xs e => ?_, s6.tb⟩
                            exact s6.kind j xs (wipe_ow e).2
                          · exact fun j xs e => (wipe_ow e).1
                        · cases hr
                      · cases hr
                    · cases hr
                  · cases hr
                · rename_i δb tb
                  refine ⟨S3, δa, false, δb, Rt, tb, fun S4 H4 s4 R4 => ?_⟩
                  show ite (false = true) _ _
                  rw [if_neg Bool.false_ne_true]
                  have kB : ∀ (j : Nat) xs, δb[j]? = some (.ow xs) → (∃ ys, δi[j]? = some (.ow ys)) ∧ j ∉ vs := fun j xs e => by
                    obtain ⟨ys, e2⟩ := s4.kind j xs e
                    exact kA j ys e2
                  have n4 : S4 Dl = none := (s4.out Dl _ h3).trans n3
                  have h4 : H4 Dl = some (.lst acc) := s4.keep Dl _ h3 nt_lst (nD kA)
                  have s14 : Stp S1 H1 S4 H4 σ δ1 δb := s13.trans' s4 (fun b o => ownD cτ' kA o) fun j xs e => by
                    obtain ⟨⟨ys, e2⟩, _⟩ := kB j xs e
                    exact si.kind j ys e2
                  refine ⟨zs.length - (i + 1), by omega, rfl, hlt, S4, wipeD δb vs, acc, done, ?_, ?_, ?_, n4, h4, dqa_ext (g3.s.trans s4.s) da, rest, hr, hdone⟩
                  · exact R4.wipe (by rw [wipe_length, lτ]) (fun j hj => (wipe_out hj).trans (cτ' j hj).symm) fun xs e => (kB 0 xs e).2
                  · refine ⟨s14.s, s14.out, s14.keep, s14.dom, fun j xs e => ?_, s14.tb⟩
                    obtain ⟨_, e2⟩ := wipe_ow e
                    exact s14.kind j xs e2
                  · exact fun j xs e => (wipe_ow e).1
                · cases hr
              · cases hr
            · refine .inl ⟨hJ.stop i S' H' si.s Ri.sub (by omega), ?_⟩
              rw [List.drop_eq_nil_of_le (by omega)] at hr
              cases hr
              rw [List.append_nil] at hdone
              subst hdone
              have hl1 : δ2.length = δ1.length := by
                rw [← Ri.len, wipe_length, R1.len]
              have look : ∀ (j : Nat) s, (mergeD δ1 δ2 vs)[j]? = some s → (j ∈ vs ∧ δ1[j]? = some s) ∨ (j ∉ vs ∧ δ2[j]? = some s) := fun j s e => by
                have hlt : j < δ2.length := by
                  have := (List.getElem?_eq_some_iff.mp e).1
                  rwa [mergeD_len] at this
                by_cases hj : j ∈ vs
                · rw [mergeD_in hlt (by omega) hj] at e
                  exact .inl ⟨hj, e⟩
                · rw [mergeD_out hj] at e
                  exact .inr ⟨hj, e⟩
              refine q Dl acc S' H' ?_ ?_ hH ni hDi da
              · have sm : Stp S1 H1 S' H' σ δ1 (mergeD δ1 δ2 vs) := ⟨si.s, si.out, si.keep, si.dom, fun j xs e => by
                  rcases look j _ e with ⟨hj, e2⟩ | ⟨hj, e2⟩
                  · exact ⟨xs, e2⟩
                  · exact si.kind j xs e2, si.tb⟩
                exact s1.trans sm
              · refine ⟨Ri.sub, Ri.base, Ri.dom0, Ri.tb0, Ri.s0, Ri.out, Ri.iop, by rw [mergeD_len, hl1, R1.len], fun j x s e1 e2 => ?_, fun j k a xs ys e1 e2 e3 e4 => ?_, fun a e => ?_⟩
                · rcases look j s e2 with ⟨hj, e3⟩ | ⟨hj, e3⟩
                  · have q1 := R1.slot j x s e1 e3
                    cases s with
                    | no => trivial
                    | sh d =>
                      obtain ⟨v, w1, w2⟩ := q1
                      exact ⟨v, w1, dq_ext si.s w2⟩
                    | scr ns =>
                      obtain ⟨b, w1, w2⟩ := q1
                      exact ⟨b, w1, Evl.ex_l si.s w2⟩
                    | ow xs => exact absurd hj (noOwn_of hno e3)
                  · exact Ri.slot j x s (by rw [wipe_out hj]; exact e1) e3
                · rcases look j _ e1 with ⟨hj, z⟩ | ⟨hj, f1⟩
                  · exact absurd hj (noOwn_of hno z)
                  · rcases look k _ e2 with ⟨hk, z⟩ | ⟨hk, f2⟩
                    · exact absurd hk (noOwn_of hno z)
                    · exact Ri.sep j k a xs ys f1 f2 (by rw [wipe_out hj]; exact e3) (by rw [wipe_out hk]; exact e4)
                · obtain ⟨p1, xs, p2⟩ := Ri.pin a e
                  have n0 := noi 0 xs p2
                  rw [wipe_out n0] at p1
                  exact ⟨p1, xs, by rw [mergeD_out n0]; exact p2⟩
        · cases hf
      · cases hf
    · cases hf
variable {X : Cx} {tg tg1 e : Expr} {pos : Pos} {x : Str} {W : WX} {f : M} {tf tf1 : MT}
/-- [.. for .. for ..] -/
theorem e_lc2 {own : List (Str × Nat)} {vs0 vs1 : List Nat} {it it1 : MA} {gg g1 : MG} {elt iter iter1 : Expr} {ifs ifs1 : List Expr} {scope : Scope} (hc : X.calm = true) (hN : X.N.Nodup) (hi : PI X tg iter (SI X.K F it)) (ok : BlkOk X.N X.env.scope scope own) (sub0 : ∀ i ∈ vs0, i ∈ own.map (·.2)) (sub : ∀ i ∈ vs1, i ∈ own.map (·.2))
    (hg : ∀ (s : Shared) (H : Hp) (C : Addr) (cl : List (Str × Addr)) (fp : List Addr), PG (X.blk s H scope (compEnvC scope cl C X.env) fp) tg (SG X.K F vs0 gg)) (ht : ∀ (s : Shared) (H : Hp) (C : Addr) (cl : List (Str × Addr)) (fp : List Addr), PTs (X.blk s H scope (compEnvC scope cl C X.env) fp) ifs (ST X.K F tf))
    (hi1 : ∀ (s : Shared) (H : Hp) (C : Addr) (cl : List (Str × Addr)) (fp : List Addr), PI (X.blk s H scope (compEnvC scope cl C X.env) fp) tg1 iter1 (SI X.K F it1))
    (hg1 : ∀ (s : Shared) (H : Hp) (C : Addr) (cl : List (Str × Addr)) (fp : List Addr), PG (X.blk s H scope (compEnvC scope cl C X.env) fp) tg1 (SG X.K F vs1 g1)) (ht1 : ∀ (s : Shared) (H : Hp) (C : Addr) (cl : List (Str × Addr)) (fp : List Addr), PTs (X.blk s H scope (compEnvC scope cl C X.env) fp) ifs1 (ST X.K F tf1))
    (he : ∀ (s : Shared) (H : Hp) (C : Addr) (cl : List (Str × Addr)) (fp : List Addr), PE (X.blk s H scope (compEnvC scope cl C X.env) fp) elt (SE X.K F f)) (hs : ∀ x, foldedSetIterable iter X.env x = pure x := by intro _; rfl) (hs1 : ∀ (env : Env) x, foldedSetIterable iter1 env x = pure x := by intro _ _; rfl) :
    PE X (.ListComp elt [⟨tg, iter, ifs, 0⟩, ⟨tg1, iter1, ifs1, 0⟩] scope pos) (SF X.K F (lComp2 it gg tf it1 g1 tf1 f (own.map (·.2)) vs1)) :=
  pf_of fun S δ d δ' σ H Q R hf q => ⟨_, pe_lc2 hc hN hi ok sub hg ht hi1 hg1 ht1 he hs hs1, lc2_read sub0 sub R hf q⟩
/-- name = [.. for .. for ..] -/
theorem s_lc2 {i : Nat} {py : Pos} {own : List (Str × Nat)} {vs0 vs1 : List Nat} {it it1 : MA} {gg g1 : MG} {elt iter iter1 : Expr} {ifs ifs1 : List Expr} {scope : Scope} {spos : Pos} (hc : X.calm = true) (hN : X.N.Nodup) (hi : PI X tg iter (SI X.K F it)) (ok : BlkOk X.N X.env.scope scope own) (sub0 : ∀ i ∈ vs0, i ∈ own.map (·.2)) (sub : ∀ i ∈ vs1, i ∈ own.map (·.2))
    (hg : ∀ (s : Shared) (H : Hp) (C : Addr) (cl : List (Str × Addr)) (fp : List Addr), PG (X.blk s H scope (compEnvC scope cl C X.env) fp) tg (SG X.K F vs0 gg)) (ht : ∀ (s : Shared) (H : Hp) (C : Addr) (cl : List (Str × Addr)) (fp : List Addr), PTs (X.blk s H scope (compEnvC scope cl C X.env) fp) ifs (ST X.K F tf))
    (hi1 : ∀ (s : Shared) (H : Hp) (C : Addr) (cl : List (Str × Addr)) (fp : List Addr), PI (X.blk s H scope (compEnvC scope cl C X.env) fp) tg1 iter1 (SI X.K F it1))
    (hg1 : ∀ (s : Shared) (H : Hp) (C : Addr) (cl : List (Str × Addr)) (fp : List Addr), PG (X.blk s H scope (compEnvC scope cl C X.env) fp) tg1 (SG X.K F vs1 g1)) (ht1 : ∀ (s : Shared) (H : Hp) (C : Addr) (cl : List (Str × Addr)) (fp : List Addr), PTs (X.blk s H scope (compEnvC scope cl C X.env) fp) ifs1 (ST X.K F tf1))
    (he : ∀ (s : Shared) (H : Hp) (C : Addr) (cl : List (Str × Addr)) (fp : List Addr), PE (X.blk s H scope (compEnvC scope cl C X.env) fp) elt (SE X.K F f)) (hy : X.N[i]? = some x := by rfl) (hyl : X.env.scope.names.lookup x = some .local := by rfl)
    (hsw : swapsWith (.ListComp elt [⟨tg, iter, ifs, 0⟩, ⟨tg1, iter1, ifs1, 0⟩] scope pos) (some (.Name x py)) spos.line X.env = pure true := by exact sw_true rfl rfl rfl (by decide +kernel)) (hs : ∀ x, foldedSetIterable iter X.env x = pure x := by intro _; rfl) (hs1 : ∀ (env : Env) x, foldedSetIterable iter1 env x = pure x := by intro _ _; rfl) :
    PS X (.Assign [.Name x py] (.ListComp elt [⟨tg, iter, ifs, 0⟩, ⟨tg1, iter1, ifs1, 0⟩] scope pos) spos) (SS X.K X.mg F W (sSet i (fList (lComp2 it gg tf it1 g1 tf1 f (own.map (·.2)) vs1)))) :=
  ps_of (ps_setLc2 hc hN hy hyl hsw hi ok sub hg ht hi1 hg1 ht1 he hs hs1) fun Z σ H hw => by
    obtain ⟨S, δ, o, R, hf, q⟩ := hw
    unfold sSet fList at hf
    cases h1 : lComp2 it gg tf it1 g1 tf1 f (own.map (·.2)) vs1 δ with
    | none => rw [h1] at hf; cases hf
    | some p =>
      obtain ⟨ds, δ1⟩ := p
      rw [h1] at hf
      simp only at hf
      split at hf
      · rename_i h0
        cases hf
        refine lc2_read sub0 sub R h1 fun a us S1 H1 s1 R1 n0 n1 e1 d1 => ?_
        obtain ⟨R2, s2⟩ := share_fresh R s1 R1 n0 n1 e1
        exact q _ _ H1 s2.s (R2.set_sh (.lst upd_same (dqa_ext (Ex.new n1) d1)) i (free0_of h0))
      · cases hf
end
/-! ### wishes -/
section
variable {it it1 : MA} {g g1 : MG} {tf tf1 : MT} {f : M} {vs vs1 : List Nat} {δ : DE} {QA : List D × DE → Prop}
/-- what one item of the outer walk gives -/
def item2 (it1 : MA) (g1 : MG) (tf1 : MT) (f : M) (vs vs1 : List Nat) (N : List D → DE → Prop) (p : Bool × DE) : Prop :=
  (p.1 = true → Wp (it1 p.2) fun z => (noOwn vs z.2 = true ∧ z.1.length ≤ 100000) ∧ Wp (cRun g1 tf1 f vs1 z.1 (wipeD z.2 vs1)) fun y => N y.1 (wipeD y.2 vs)) ∧ (p.1 = false → N [] (wipeD p.2 vs))
@[simp] theorem wp_lComp2 : Wp (lComp2 it g tf it1 g1 tf1 f vs vs1 δ) QA ↔ Wp (it δ) fun p => (noOwn vs p.2 = true ∧ p.1.length ≤ 100000) ∧ Wp (cRun2 g tf it1 g1 tf1 f vs vs1 p.1 (wipeD p.2 vs)) fun q => q.1.length ≤ 100000 ∧ QA (q.1, mergeD p.2 q.2 vs) := by
  unfold lComp2
  rcases it δ with _ | ⟨ds, δ1⟩ <;> simp
  intro _ _
  rcases cRun2 g tf it1 g1 tf1 f vs vs1 ds (wipeD δ1 vs) with _ | ⟨ys, δ2⟩ <;> simp
theorem wp_cRun2Nil : Wp (cRun2 g tf it1 g1 tf1 f vs vs1 [] δ) QA ↔ QA ([], δ) := by simp [cRun2]
theorem wp_cRun2Cons {d : D} {ds : List D} : Wp (cRun2 g tf it1 g1 tf1 f vs vs1 (d :: ds) δ) QA ↔ Wp (g d δ) fun δ1 => Wp (tf δ1) (item2 it1 g1 tf1 f vs vs1 fun ys δ2 => Wp (cRun2 g tf it1 g1 tf1 f vs vs1 ds δ2) fun r => QA (ys ++ r.1, r.2)) := by
  simp only [cRun2]
  rcases g d δ with _ | δ1 <;> simp
  rcases tf δ1 with _ | ⟨b, δ2⟩ <;> simp
  cases b
  · simp [item2]
  · simp [item2]
    rcases it1 δ2 with _ | ⟨zs, δ3⟩ <;> simp
    intro _ _
    rcases cRun g1 tf1 f vs1 zs (wipeD δ3 vs1) with _ | ⟨ys, δ4⟩ <;> simp
    rcases cRun2 g tf it1 g1 tf1 f vs vs1 ds (wipeD δ4 vs) with _ | ⟨rest, δ5⟩ <;> simp
/-- each item gives some, and leaves nothing behind -/
theorem wp_cRun2 {α : Type} (en : α → D) (o : α → List D) : ∀ {ds : List D} (xs : List α) {QA : List D × DE → Prop}, ds = xs.map en →
    (∀ x ∈ xs, Wp (g (en x) δ) fun δ1 => Wp (tf δ1) (item2 it1 g1 tf1 f vs vs1 fun ys δ2 => ys = o x ∧ δ2 = δ)) → QA ((xs.map o).flatten, δ) → Wp (cRun2 g tf it1 g1 tf1 f vs vs1 ds δ) QA
  | _, [], QA, rfl, _, he => by
    rw [List.map_nil, wp_cRun2Nil]
    exact he
  | _, x :: xs, QA, rfl, hs, he => by
    rw [List.map_cons, wp_cRun2Cons]
    refine (hs x (List.mem_cons_self ..)).mono fun δ1 h => h.mono fun p hp => ⟨fun hb => (hp.1 hb).mono fun z hz => ⟨hz.1, hz.2.mono fun y hy => ?_⟩, fun hb => ?_⟩
    · obtain ⟨e1, e2⟩ := hy
      rw [e2, e1]
      exact wp_cRun2 en o xs rfl (fun x' hx' => hs x' (List.mem_cons_of_mem _ hx')) (by simpa using he)
    · obtain ⟨e1, e2⟩ := hp.2 hb
      rw [e2, e1]
      exact wp_cRun2 en o xs rfl (fun x' hx' => hs x' (List.mem_cons_of_mem _ hx')) (by simpa using he)
end
end Sd

/-! dict([(k, v), ..]) and {k: v for ..}: whole numbers or texts as keys. -/
namespace Sd
open PySem PySem.Spec PyProof.Rows L2
open Evl (Ex)
def pairsK : List D → Option (List (Key × D))
  | [] => some []
  | .tuple [k, v] :: r => match keyOf k with
    | some kk => (pairsK r).map fun l => (kk, v) :: l
    | none => none
  | _ => none
def mrgT (kk l : List (Key × D)) : List (Key × D) := l.foldl (fun acc p => putT acc p.1 p.2) kk
def oDict (f : M) : MO' := fun δ => match f δ with
  | some (.list ds, δ1) => (pairsK ds).map fun l => (.dct (kD (mrgT [] l)), δ1)
  | _ => none
theorem put_kv {S : Hp} {kws : List (Key × V)} {kk : List (Key × D)} (h : KvOk S kws kk) (k : Key) {v : V} {d : D} (hd : Dq S v d) : KvOk S (putK kws k v) (putT kk k d) := by
  have ea : (kws.any fun kv => decide (kv.1 = k)) = (kk.any fun p => decide (p.1 = k)) := by
    have := congrArg (fun l : List Key => l.any fun x => decide (x = k)) h.1
    rw [List.any_map, List.any_map] at this
    exact this
  unfold putK putT
  rw [ea]
  split
  · obtain ⟨i1, i2, _⟩ := put_map (enc := keyD) eqv_keyD k hd h.1 h.2
    exact ⟨i1, i2⟩
  · refine ⟨by simp [h.1], ?_⟩
    rw [List.map_append, List.map_append]
    exact dqa_app h.2 (.cons hd .nil)
theorem merge_kv {S : Hp} : ∀ {wl : List (Key × V)} {dl : List (Key × D)} {kws : List (Key × V)} {kk : List (Key × D)}, KvOk S kws kk → wl.map (·.1) = dl.map (·.1) → DqAll S (wl.map (·.2)) (dl.map (·.2)) → KvOk S (mergeK kws wl) (mrgT kk dl)
  | [], [], _, _, h, _, _ => h
  | [], _ :: _, _, _, _, e, _ => by simp at e
  | _ :: _, [], _, _, _, e, _ => by simp at e
  | (a, v) :: wl, (b, d) :: dl, kws, kk, h, e, q => by
    simp only [List.map_cons, List.cons.injEq] at e
    obtain ⟨rfl, e⟩ := e
    simp only [List.map_cons] at q
    cases q with
    | cons q1 q2 => exact merge_kv (wl := wl) (dl := dl) (kws := putK kws a v) (kk := putT kk a d) (put_kv h a q1) e q2
section
variable [TabSet]
theorem pairs_of {K : PySem.W.Frag} {S H : Hp} (sub : Ex S H) : ∀ {vs : List V} {ds : List D} {l : List (Key × D)}, DqAll S vs ds → pairsK ds = some l → ∃ (ps : List Addr) (wl : List (Key × V)), vs = ps.map V.ref ∧ Paired (fun p kv => SqT K H p [kV kv.1, kv.2]) ps wl ∧ wl.map (·.1) = l.map (·.1) ∧ DqAll S (wl.map (·.2)) (l.map (·.2))
  | _, [], l, .nil, h => by
    cases h
    exact ⟨[], [], rfl, .nil, rfl, .nil⟩
  | _, d :: ds, l, .cons h1 h2, h => by
    unfold pairsK at h
    split at h
    · rename_i e
      cases e
    · rename_i k v r e
      cases e
      split at h
      · rename_i kk hk
        obtain ⟨l', e', rfl⟩ := Option.map_eq_some_iff.mp h
        obtain ⟨ps, wl, rfl, hp, hf, hs⟩ := pairs_of sub h2 e'
        obtain ⟨b, us, rfl, hb, hu⟩ := dq_tup h1
        obtain rfl := keyOf_eq hk
        cases hu with
        | cons u1 u2 =>
          cases u2 with
          | cons u2 u3 =>
            cases u3
            obtain rfl := dq_key u1
            rename_i y
            exact ⟨b :: ps, (kk, y) :: wl, rfl, .cons (Tp.sq (Tp.ext sub hb)) hp, by simp [hf], .cons u2 hs⟩
      · cases h
    · cases h
variable {X : Cx} {F : Fr} {e a b c tg : Expr} {pos p : Pos} {f g h fk fv : M} {tf : MT} {x : Str}
theorem o_dict {pp : Pos} (hc : X.calm = true) (hg : Gl X "dict" := by rfl) (hm : X.mg "dict" = none) (ha : PE X a (SE X.K F f)) (he : starEach (a :: []) X.env = (false, eval a X.env) :: starEach [] X.env := by rfl) (hpl : (backTo pos (starEach [] X.env)).any (·.1) = false := by rfl) :
    PE X (.Call (.Name "dict" pp) [a] [] pos) (SFO X.K F (oDict f)) := by
  refine pfo_of fun S δ ob δ' σ H Q R hf q => ⟨_, pe_callTy (call_dictP hc) hg hm (by decide +kernel) (pa_cons ha pa_nil he) (he := he) (hpl := hpl), ?_⟩
  unfold oDict at hf
  split at hf
  · rename_i ds δ1 h1
    obtain ⟨l, e1, e2⟩ := Option.map_eq_some_iff.mp hf
    cases e2
    refine ⟨S, δ, _, _, R, h1, fun v S1 H1 s1 R1 d1 => ?_⟩
    obtain ⟨p1, vs, rfl, ep, dv⟩ := dq_list d1
    obtain ⟨ps, wl, rfl, hp, hf1, hs1⟩ := pairs_of (K := X.K) R1.sub dv e1
    refine ⟨p1, ps, wl, rfl, SqL.of (R1.sub _ _ ep), hp, fun p hpn => ?_⟩
    obtain ⟨R2, s2, n2⟩ := lay_fresh (o := .dK (mergeK [] wl)) R1 hpn
    have hH : H p = none := by
      cases hz : H p with
      | none => rfl
      | some o =>
        obtain ⟨o', q'⟩ := s1.dom p o hz
        rw [hpn] at q'; cases q'
    exact q p _ S1 _ (s1.trans s2) R2 hH n2 upd_same (.inl ⟨_, _, rfl, rfl, merge_kv (kws := []) (kk := []) ⟨rfl, .nil⟩ hf1 hs1⟩)
  · cases hf
omit [TabSet] in
def cRunD (g : MG) (tf : MT) (fk fv : M) (vs : List Nat) : List (Key × D) → List D → DE → Option (List (Key × D) × DE)
  | acc, [], δ => some (acc, δ)
  | acc, d :: ds, δ => match g d δ with
    | some δ1 => match tf δ1 with
      | some (true, δ2) => match fk δ2 with
        | some (k, δ3) => match fv δ3 with
          | some (v, δ4) => match keyOf k with
            | some kk => cRunD g tf fk fv vs (putT acc kk v) ds (wipeD δ4 vs)
            | none => none
          | none => none
        | none => none
      | some (false, δ2) => cRunD g tf fk fv vs acc ds (wipeD δ2 vs)
      | none => none
    | none => none
omit [TabSet] in
def oComp (it : MA) (g : MG) (tf : MT) (fk fv : M) (vs : List Nat) : MO' := fun δ => match it δ with
  | some (ds, δ1) => if noOwn vs δ1 = true ∧ ds.length ≤ 100000 then match cRunD g tf fk fv vs [] ds (wipeD δ1 vs) with
      | some (kk, δ2) => some (.dct (kD kk), mergeD δ1 δ2 vs)
      | none => none
    else none
  | none => none
theorem tabs_dk {T : List (Addr × Str)} {S H : Hp} {a : Addr} {ks ls : List (Key × V)} {kk : List (Key × D)} (t : LamX.Tabs T H) (h : H a = some (.dK ks)) (k : KvOk S ks kk) : LamX.Tabs T (upd H a (.dK ls)) :=
  tabs_ob (S := S) (ob := .dct (kD kk)) t h (.inl ⟨_, _, rfl, rfl, k⟩)
theorem RSt.freeD {K : PySem.W.Frag} {S H : Hp} {σ : L2.St} {δ : DE} (R : RSt K F S H σ δ) {p : Addr} {us ws : List (Key × V)} {kk : List (Key × D)} (hk : KvOk S us kk) (hS : S p = none) (hp : H p = some (.dK us)) (hn : ¬ Own σ δ p) (h0 : F.H0 p = none) (hio : F.io ≠ some p) : RSt K F S (upd H p (.dK ws)) σ δ := by
  refine ⟨fun b u e => ?_, fun b u e nt n => ?_, fun b u e => ?_, fun t => ⟨tabs_dk (R.tb0 t).1 hp hk, (R.tb0 t).2⟩, R.s0, R.out, fun b e => ?_, R.len, fun i x s h1 h2 => ?_, R.sep, R.pin⟩
  · rw [upd_ne (fun z => by rw [z, hS] at e; cases e)]; exact R.sub b u e
  · rw [upd_ne (fun z => by rw [z, h0] at e; cases e)]; exact R.base b u e nt n
  · rw [upd_ne (fun z => by rw [z, h0] at e; cases e)]; exact R.dom0 b u e
  · rw [upd_ne (fun z => hio (by rw [← z]; exact e))]; exact R.iop b e
  · have q := R.slot i x s h1 h2
    cases s with
    | no => trivial
    | sh d => exact q
    | scr ns => exact q
    | ow xs =>
      obtain ⟨a, vs, e, e1, e2, e3, e4⟩ := q
      exact ⟨a, vs, e, e1, e2, by rw [upd_ne (fun z => hn ⟨i, xs, h2, by rw [h1, e, z]⟩)]; exact e3, e4⟩
omit [TabSet] in
theorem kv_ext {S S' : Hp} (x : Ex S S') {kws : List (Key × V)} {kk : List (Key × D)} (h : KvOk S kws kk) : KvOk S' kws kk := ⟨h.1, dqa_ext x h.2⟩
omit [TabSet] in
theorem kv_len {S : Hp} {kws : List (Key × V)} {kk : List (Key × D)} (h : KvOk S kws kk) : kws.length = kk.length := by
  have := congrArg List.length h.1
  simpa using this
omit [TabSet] in
theorem nt_dk {ks : List (Key × V)} : ∀ ps, (HO.dK ks : HO) ≠ .tbl ps := fun ps z => by cases z
/-- the reading of a dict comprehension -/
theorem dc_read {K : PySem.W.Frag} {it : MA} {gg : MG} {vs : List Nat} {S : Hp} {δ δ' : DE} {ob : Ob} {σ : L2.St} {H : Hp} {Q : VK} (R : RSt K F S H σ δ) (hf : oComp it gg tf fk fv vs δ = some (ob, δ'))
    (q : ∀ a o S' H', Stp S H S' H' σ δ δ' → RSt K F S' H' σ δ' → H a = none → S' a = none → H' a = some o → ObOk S' o ob → Q (.ref a) H') : tDc (SI K F it) (SG K F vs gg) (ST K F tf) (SE K F fk) (SE K F fv) vs σ H Q := by
  unfold oComp at hf
  cases h1 : it δ with
  | none => rw [h1] at hf; cases hf
  | some p =>
    obtain ⟨zs, δ1⟩ := p
    rw [h1] at hf
    simp only at hf
    split at hf
    · rename_i hno
      obtain ⟨hno, hz⟩ := hno
      split at hf
      · rename_i kF δ2 hrun
        cases hf
        refine ⟨S, δ, zs, δ1, R, h1, fun J S1 H1 s1 R1 hJ => fun Dl hD => ?_⟩
        obtain ⟨R1', s1', n1⟩ := lay_fresh (o := .dK []) R1 hD
        have hH : H Dl = none := by
          cases hz : H Dl with
          | none => rfl
          | some o =>
            obtain ⟨o', q'⟩ := s1.dom Dl o hz
            rw [hD] at q'; cases q'
        obtain ⟨z1, z2⟩ := R1.frz hD
        have nownD : ¬ Own σ δ1 Dl := fun o => by
          obtain ⟨us, q', _⟩ := R1.own_in o
          rw [hD] at q'; cases q'
        refine ⟨fun i m H' => m = zs.length - i ∧ i ≤ zs.length ∧ ∃ S' δi kws kk, RSt K F S' H' (wipe σ vs) δi ∧ Stp S1 H1 S' H' σ δ1 δi ∧ (∀ (j : Nat) xs, δi[j]? = some (.ow xs) → j ∉ vs) ∧ S' Dl = none ∧ H' Dl = some (.dK kws) ∧ KvOk S' kws kk ∧ kk.length ≤ i ∧
          cRunD gg tf fk fv vs kk (zs.drop i) δi = some (kF, δ2), ⟨zs.length, by omega, Nat.zero_le _, S1, wipeD δ1 vs, [], [], ?_, ?_, ?_, n1, upd_same, ⟨rfl, .nil⟩, Nat.zero_le _, hrun⟩, ?_⟩
        · exact R1'.wipe (wipe_length σ vs) (fun j hj => wipe_out hj) fun xs e => noOwn_of hno e
        · exact ⟨s1'.s, s1'.out, s1'.keep, s1'.dom, fun i xs e => ⟨xs, (wipe_ow e).2⟩, s1'.tb⟩
        · exact fun j xs e => (wipe_ow e).1
        · rintro i m H' ⟨rfl, hi, S', δi, kws, kk, Ri, si, noi, ni, hDi, da, hlen, hr⟩
          have ownD : ∀ {τ : L2.St} {δx : DE} {b : Addr}, (∀ j, j ∉ vs → τ[j]? = σ[j]?) → (∀ (j : Nat) xs, δx[j]? = some (.ow xs) → (∃ ys, δi[j]? = some (.ow ys)) ∧ j ∉ vs) → Own τ δx b → Own σ δ1 b := fun {τ δx b} hτ hx o => by
            obtain ⟨j, xs, o1, o2⟩ := o
            obtain ⟨⟨ys, e1⟩, nj⟩ := hx j xs o1
            obtain ⟨ws, e2⟩ := si.kind j ys e1
            rw [hτ j nj] at o2
            exact ⟨j, ws, e2, o2⟩
          by_cases hlt : i < zs.length
          · refine .inr ⟨hJ.go i S' H' si.s Ri.sub hlt, fun H'' => ∃ m', m' < zs.length - i ∧ (m' = zs.length - (i + 1) ∧ i + 1 ≤ zs.length ∧ ∃ S' δi kws kk, RSt K F S' H'' (wipe σ vs) δi ∧ Stp S1 H1 S' H'' σ δ1 δi ∧ (∀ (j : Nat) xs, δi[j]? = some (.ow xs) → j ∉ vs) ∧ S' Dl = none ∧ H'' Dl = some (.dK kws) ∧ KvOk S' kws kk ∧ kk.length ≤ i + 1 ∧
              cRunD gg tf fk fv vs kk (zs.drop (i + 1)) δi = some (kF, δ2)), fun H'' h => h, fun x H3 hy => ?_⟩
            obtain ⟨S3, g3, d3⟩ := hJ.yld i S' H' x H3 zs[i] si.s Ri.sub hy (List.getElem?_eq_getElem hlt)
            rw [List.drop_eq_getElem_cons hlt] at hr
            simp only [cRunD] at hr
            split at hr
            · rename_i δa ga
              have R3 := Ri.grow g3
              have n3 : S3 Dl = none := (g3.out Dl _ hDi).trans ni
              have h3 : H3 Dl = some (.dK kws) := g3.h Dl _ hDi nt_dk
              refine ⟨S3, δi, zs[i], δa, R3, d3, ga, fun τ Rt lτ cτ oτ => ?_⟩
              rw [wipe_length] at lτ
              have cτ' : ∀ j, j ∉ vs → τ[j]? = σ[j]? := fun j hj => (cτ j hj).trans (wipe_out hj)
              have kA : ∀ (j : Nat) xs, δa[j]? = some (.ow xs) → (∃ ys, δi[j]? = some (.ow ys)) ∧ j ∉ vs := fun j xs e => ⟨⟨xs, (oτ j xs e).1⟩, (oτ j xs e).2⟩
              have s13 : Stp S1 H1 S3 H3 σ δ1 δi := si.trans' (Stp.grow g3 (σ := wipe σ vs) (δ := δi)) (fun b o => ownD (fun j hj => wipe_out hj) (fun j xs e => ⟨⟨xs, e⟩, noi j xs e⟩) o) si.kind
              refine ⟨wipe_eq lτ cτ', ?_⟩
              have nD : ∀ {δx : DE}, (∀ (j : Nat) xs, δx[j]? = some (.ow xs) → (∃ ys, δi[j]? = some (.ow ys)) ∧ j ∉ vs) → ¬ Own τ δx Dl := fun hx o => nownD (ownD cτ' hx o)
              split at hr
              · rename_i δb tb
                refine ⟨S3, δa, true, δb, Rt, tb, fun S4 H4 s4 R4 => ?_⟩
                show ite (true = true) _ _
                rw [if_pos rfl]
                have kB : ∀ (j : Nat) xs, δb[j]? = some (.ow xs) → (∃ ys, δi[j]? = some (.ow ys)) ∧ j ∉ vs := fun j xs e => by
                  obtain ⟨ys, e2⟩ := s4.kind j xs e
                  exact kA j ys e2
                have n4 : S4 Dl = none := (s4.out Dl _ h3).trans n3
                have h4 : H4 Dl = some (.dK kws) := s4.keep Dl _ h3 nt_dk (nD kA)
                have s14 : Stp S1 H1 S4 H4 σ δ1 δb := s13.trans' s4 (fun b o => ownD cτ' kA o) fun j xs e => by
                  obtain ⟨⟨ys, e2⟩, _⟩ := kB j xs e
                  exact si.kind j ys e2
                split at hr
                · rename_i k δc tc
                  refine ⟨S4, δb, k, δc, R4, tc, fun y S5 H5 s5 R5 d5 => ?_⟩
                  have kC : ∀ (j : Nat) xs, δc[j]? = some (.ow xs) → (∃ ys, δi[j]? = some (.ow ys)) ∧ j ∉ vs := fun j xs e => by
                    obtain ⟨ys, e2⟩ := s5.kind j xs e
                    exact kB j ys e2
                  have n5 : S5 Dl = none := (s5.out Dl _ h4).trans n4
                  have h5 : H5 Dl = some (.dK kws) := s5.keep Dl _ h4 nt_dk (nD kB)
                  have s15 : Stp S1 H1 S5 H5 σ δ1 δc := s14.trans' s5 (fun b o => ownD cτ' kB o) fun j xs e => by
                    obtain ⟨⟨ys, e2⟩, _⟩ := kC j xs e
                    exact si.kind j ys e2
                  split at hr
                  · rename_i v δd td
                    refine ⟨S5, δc, v, δd, R5, td, fun w S6 H6 s6 R6 d6 => ?_⟩
                    have kE : ∀ (j : Nat) xs, δd[j]? = some (.ow xs) → (∃ ys, δi[j]? = some (.ow ys)) ∧ j ∉ vs := fun j xs e => by
                      obtain ⟨ys, e2⟩ := s6.kind j xs e
                      exact kC j ys e2
                    have n6 : S6 Dl = none := (s6.out Dl _ h5).trans n5
                    have h6 : H6 Dl = some (.dK kws) := s6.keep Dl _ h5 nt_dk (nD kC)
                    have s16 : Stp S1 H1 S6 H6 σ δ1 δd := s15.trans' s6 (fun b o => ownD cτ' kC o) fun j xs e => by
                      obtain ⟨⟨ys, e2⟩, _⟩ := kE j xs e
                      exact si.kind j ys e2
                    split at hr
                    · rename_i k' hk'
                      obtain rfl := keyOf_eq hk'
                      have dkv : KvOk S6 kws kk := kv_ext (g3.s.trans (s4.s.trans (s5.s.trans s6.s))) da
                      have lkv := kv_len dkv
                      have pl := putT_len kk k' v
                      refine ⟨kws, k', dq_key d5, h6, Evl.sz_lt (by omega), zs.length - (i + 1), by omega, rfl, hlt, S6, wipeD δd vs, putK kws k' w, putT kk k' v, ?_, ?_, ?_, n6, upd_same, put_kv dkv k' d6, by omega, hr⟩
                      · exact (R6.freeD dkv n6 h6 (nD kE) z1 z2).wipe (by rw [wipe_length, lτ]) (fun j hj => (wipe_out hj).trans (cτ' j hj).symm) fun xs e => (kE 0 xs e).2
                      · refine ⟨s16.s, s16.out, fun b o e nt n => ?_, fun b o e => ?_, fun j xs e => ?_, fun t => ⟨tabs_dk (s16.tb t).1 h6 dkv, (s16.tb t).2⟩⟩
                        · rw [upd_ne (fun z => by rw [z, hD] at e; cases e)]
                          exact s16.keep b o e nt n
                        · rw [upd_ne (fun z => by rw [z, hD] at e; cases e)]
                          exact s16.dom b o e
                        · obtain ⟨_, e2⟩ := wipe_ow e
                          exact s16.kind j xs e2
                      · exact fun j xs e => (wipe_ow e).1
                    · cases hr
                  · cases hr
                · cases hr
              · rename_i δb tb
                refine ⟨S3, δa, false, δb, Rt, tb, fun S4 H4 s4 R4 => ?_⟩
                show ite (false = true) _ _
                rw [if_neg Bool.false_ne_true]
                have kB : ∀ (j : Nat) xs, δb[j]? = some (.ow xs) → (∃ ys, δi[j]? = some (.ow ys)) ∧ j ∉ vs := fun j xs e => by
                  obtain ⟨ys, e2⟩ := s4.kind j xs e
                  exact kA j ys e2
                have n4 : S4 Dl = none := (s4.out Dl _ h3).trans n3
                have h4 : H4 Dl = some (.dK kws) := s4.keep Dl _ h3 nt_dk (nD kA)
                have s14 : Stp S1 H1 S4 H4 σ δ1 δb := s13.trans' s4 (fun b o => ownD cτ' kA o) fun j xs e => by
                  obtain ⟨⟨ys, e2⟩, _⟩ := kB j xs e
                  exact si.kind j ys e2
                refine ⟨zs.length - (i + 1), by omega, rfl, hlt, S4, wipeD δb vs, kws, kk, ?_, ?_, ?_, n4, h4, kv_ext (g3.s.trans s4.s) da, by omega, hr⟩
                · exact R4.wipe (by rw [wipe_length, lτ]) (fun j hj => (wipe_out hj).trans (cτ' j hj).symm) fun xs e => (kB 0 xs e).2
                · refine ⟨s14.s, s14.out, s14.keep, s14.dom, fun j xs e => ?_, s14.tb⟩
                  obtain ⟨_, e2⟩ := wipe_ow e
                  exact s14.kind j xs e2
                · exact fun j xs e => (wipe_ow e).1
              · cases hr
            · cases hr
          · refine .inl ⟨hJ.stop i S' H' si.s Ri.sub (by omega), ?_⟩
            rw [List.drop_eq_nil_of_le (by omega)] at hr
            cases hr
            have hl1 : δ2.length = δ1.length := by
              rw [← Ri.len, wipe_length, R1.len]
            have look : ∀ (j : Nat) s, (mergeD δ1 δ2 vs)[j]? = some s → (j ∈ vs ∧ δ1[j]? = some s) ∨ (j ∉ vs ∧ δ2[j]? = some s) := fun j s e => by
              have hlt : j < δ2.length := by
                have := (List.getElem?_eq_some_iff.mp e).1
                rwa [mergeD_len] at this
              by_cases hj : j ∈ vs
              · rw [mergeD_in hlt (by omega) hj] at e
                exact .inl ⟨hj, e⟩
              · rw [mergeD_out hj] at e
                exact .inr ⟨hj, e⟩
            refine q Dl _ S' H' ?_ ?_ hH ni hDi (.inl ⟨_, _, rfl, rfl, da⟩)
            · have sm : Stp S1 H1 S' H' σ δ1 (mergeD δ1 δ2 vs) := ⟨si.s, si.out, si.keep, si.dom, fun j xs e => by
                rcases look j _ e with ⟨hj, e2⟩ | ⟨hj, e2⟩
                · exact ⟨xs, e2⟩
                · exact si.kind j xs e2, si.tb⟩
              exact s1.trans sm
            · refine ⟨Ri.sub, Ri.base, Ri.dom0, Ri.tb0, Ri.s0, Ri.out, Ri.iop, by rw [mergeD_len, hl1, R1.len], fun j x s e1 e2 => ?_, fun j k a xs ys e1 e2 e3 e4 => ?_, fun a e => ?_⟩
              · rcases look j s e2 with ⟨hj, e3⟩ | ⟨hj, e3⟩
                · have q1 := R1.slot j x s e1 e3
                  cases s with
                  | no => trivial
                  | sh d =>
                    obtain ⟨v, w1, w2⟩ := q1
                    exact ⟨v, w1, dq_ext si.s w2⟩
                  | scr ns =>
                    obtain ⟨b, w1, w2⟩ := q1
                    exact ⟨b, w1, Evl.ex_l si.s w2⟩
                  | ow xs => exact absurd hj (noOwn_of hno e3)
                · exact Ri.slot j x s (by rw [wipe_out hj]; exact e1) e3
              · rcases look j _ e1 with ⟨hj, z⟩ | ⟨hj, f1⟩
                · exact absurd hj (noOwn_of hno z)
                · rcases look k _ e2 with ⟨hk, z⟩ | ⟨hk, f2⟩
                  · exact absurd hk (noOwn_of hno z)
                  · exact Ri.sep j k a xs ys f1 f2 (by rw [wipe_out hj]; exact e3) (by rw [wipe_out hk]; exact e4)
              · obtain ⟨p1, xs, p2⟩ := Ri.pin a e
                have n0 := noi 0 xs p2
                rw [wipe_out n0] at p1
                exact ⟨p1, xs, by rw [mergeD_out n0]; exact p2⟩
      · cases hf
    · cases hf
/-- {k: v for ..} -/
theorem o_dc {own : List (Str × Nat)} {it : MA} {gg : MG} {kx vx iter : Expr} {ifs : List Expr} {scope : Scope} (hc : X.calm = true) (hN : X.N.Nodup) (hi : PI X tg iter (SI X.K F it)) (ok : BlkOk X.N X.env.scope scope own)
    (hg : ∀ (s : Shared) (H : Hp) (C : Addr) (cl : List (Str × Addr)) (fp : List Addr), PG (X.blk s H scope (compEnvC scope cl C X.env) fp) tg (SG X.K F (own.map (·.2)) gg)) (ht : ∀ (s : Shared) (H : Hp) (C : Addr) (cl : List (Str × Addr)) (fp : List Addr), PTs (X.blk s H scope (compEnvC scope cl C X.env) fp) ifs (ST X.K F tf))
    (hk : ∀ (s : Shared) (H : Hp) (C : Addr) (cl : List (Str × Addr)) (fp : List Addr), PE (X.blk s H scope (compEnvC scope cl C X.env) fp) kx (SE X.K F fk)) (hv : ∀ (s : Shared) (H : Hp) (C : Addr) (cl : List (Str × Addr)) (fp : List Addr), PE (X.blk s H scope (compEnvC scope cl C X.env) fp) vx (SE X.K F fv)) (hs : ∀ x, foldedSetIterable iter X.env x = pure x := by intro _; rfl) :
    PE X (.DictComp kx vx [⟨tg, iter, ifs, 0⟩] scope pos) (SFO X.K F (oComp it gg tf fk fv (own.map (·.2)))) :=
  pfo_of fun S δ ob δ' σ H Q R hf q => ⟨_, pe_dc hc hN hi ok hg ht hk hv hs, dc_read R hf q⟩
end
end Sd

/-! a, b = two new things of one's own; a new thing and a value. -/
namespace Sd
open PySem PySem.Spec PyProof.Rows L2
open Evl (Ex)
/-- a new list, seen as a new thing -/
def oLst (ff : MA) : MO' := fun δ => match ff δ with
  | some (xs, δ1) => some (.lst xs, δ1)
  | none => none
def sParBB (i j : Nat) (fo go : MO') : MS := fun δ => match fo δ with
  | some (ob, δ1) => match go δ1 with
    | some (ob2, δ2) => if free0 i δ2 = true ∧ free0 j δ2 = true ∧ i ≠ j then some (.nx ((δ2.set i (.ow ob)).set j (.ow ob2))) else none
    | none => none
  | none => none
def sParBE (i j : Nat) (fo : MO') (g : M) : MS := fun δ => match fo δ with
  | some (ob, δ1) => match g δ1 with
    | some (d, δ2) => if free0 i δ2 = true ∧ free0 j δ2 = true ∧ i ≠ j then some (.nx ((δ2.set i (.ow ob)).set j (.sh d))) else none
    | none => none
  | none => none
section
variable [TabSet]
variable {X : Cx} {F : Fr} {e a b c tg : Expr} {pos p : Pos} {f g h : M} {tf : MT} {ff : MA} {x y : Str} {fo go : MO'} {W : WX}
theorem o_lst (h : PE X e (SF X.K F ff)) : PE X e (SFO X.K F (oLst ff)) := pfo_of fun S δ ob δ' σ H Q R hf q => by
  unfold oLst at hf
  split at hf
  · rename_i xs δ1 h1
    cases hf
    exact ⟨_, h, S, δ, xs, _, R, h1, fun a vs S' H' s R' n0 n1 e1 d1 => q a _ S' H' s R' n0 n1 e1 (ob_lst d1)⟩
  · cases hf
omit [TabSet] in
theorem own_set {σ : L2.St} {δ : DE} {i : Nat} {a a' : Addr} {ob : Ob} (hn : ¬ Own σ δ a') (ne : a ≠ a') : ¬ Own (σ.set i (some (.ref a))) (δ.set i (.ow ob)) a' := fun ⟨k, xs, h1, h2⟩ => by
  by_cases hk : i = k
  · subst hk
    have hl : i < (σ.set i (some (V.ref a))).length := (List.getElem?_eq_some_iff.mp h2).1
    rw [List.length_set] at hl
    rw [List.getElem?_set_self hl] at h2
    cases h2
    exact ne rfl
  · rw [List.getElem?_set_ne hk] at h1 h2
    exact hn ⟨k, xs, h1, h2⟩
theorem free_set {i j : Nat} {δ : DE} {s : Slot} (hj : free0 j δ = true) (hij : i ≠ j) : j = 0 → ∀ xs, (δ.set i s)[0]? ≠ some (.ow xs) := fun e xs z => by
  subst e
  rw [List.getElem?_set_ne hij] at z
  exact free0_of hj rfl xs z
/-- two own things at hand -/
theorem two_own {K : PySem.W.Frag} {S1 H1 S2 H2 S H : Hp} {σ : L2.St} {δ δ1 δ2 : DE} {i j : Nat} {a a' : Addr} {o o' : HO} {ob ob2 : Ob} (R : RSt K F S H σ δ) (s1 : Stp S H S1 H1 σ δ δ1) (R1 : RSt K F S1 H1 σ δ1) (n0 : H a = none) (n1 : S1 a = none) (e1 : H1 a = some o) (d1 : ObOk S1 o ob)
    (s2 : Stp S1 H1 S2 H2 σ δ1 δ2) (R2 : RSt K F S2 H2 σ δ2) (m0 : H1 a' = none) (m1 : S2 a' = none) (e2 : H2 a' = some o') (d2 : ObOk S2 o' ob2) (hi : free0 i δ2 = true) (hj : free0 j δ2 = true) (hij : i ≠ j) :
    RSt K F S2 H2 ((σ.set i (some (.ref a))).set j (some (.ref a'))) ((δ2.set i (.ow ob)).set j (.ow ob2)) := by
  obtain ⟨z1, z2, z3⟩ := own_new R s1 n0
  obtain ⟨y1, y2, y3⟩ := own_new R1 s2 m0
  have ne : a ≠ a' := fun z => by rw [z, m0] at e1; cases e1
  have n2 : S2 a = none := (s2.out _ _ e1).trans n1
  have e3 : H2 a = some o := s2.keep _ _ e1 (ob_nt d1) z3
  have z4 : ¬ Own σ δ2 a := fun q => z3 (s2.own q)
  have R3 := R2.set_ow n2 (.inl z1) e3 (ob_ext s2.s d1) z4 i (free0_of hi)
  exact R3.set_ow m1 (.inl y1) e2 d2 (own_set y3 ne) j (free_set hj hij)
theorem one_own {K : PySem.W.Frag} {S1 H1 S2 H2 S H : Hp} {σ : L2.St} {δ δ1 δ2 : DE} {i j : Nat} {a : Addr} {v : V} {d : D} {o : HO} {ob : Ob} (R : RSt K F S H σ δ) (s1 : Stp S H S1 H1 σ δ δ1) (R1 : RSt K F S1 H1 σ δ1) (n0 : H a = none) (n1 : S1 a = none) (e1 : H1 a = some o) (d1 : ObOk S1 o ob)
    (s2 : Stp S1 H1 S2 H2 σ δ1 δ2) (R2 : RSt K F S2 H2 σ δ2) (d2 : Dq S2 v d) (hi : free0 i δ2 = true) (hj : free0 j δ2 = true) (hij : i ≠ j) :
    RSt K F S2 H2 ((σ.set i (some (.ref a))).set j (some v)) ((δ2.set i (.ow ob)).set j (.sh d)) := by
  obtain ⟨z1, z2, z3⟩ := own_new R s1 n0
  have n2 : S2 a = none := (s2.out _ _ e1).trans n1
  have e3 : H2 a = some o := s2.keep _ _ e1 (ob_nt d1) z3
  have z4 : ¬ Own σ δ2 a := fun q => z3 (s2.own q)
  have R3 := R2.set_ow n2 (.inl z1) e3 (ob_ext s2.s d1) z4 i (free0_of hi)
  exact R3.set_sh d2 j (free_set hj hij)
variable {i j : Nat} {px py pt : Pos} {kt k2 : Nat} {pt2 : Pos}
theorem s_parBB {kt k2 pt2} (hc : X.calm = true) (hN : X.N.Nodup) (ha : PE X a (SFO X.K F fo)) (hb : PE X b (SFO X.K F go)) (hw : swappedStores [.Tuple [.Name x px, .Name y py] kt pt] (.Tuple [a, b] k2 pt2) X.env = pure (some [x, y])) (hi : X.N[i]? = some x := by rfl) (hj : X.N[j]? = some y := by rfl) (hij : i ≠ j := by decide)
    (he : starEach (a :: [b]) X.env = (false, eval a X.env) :: starEach [b] X.env := by rfl) (he2 : starEach (b :: []) X.env = (false, eval b X.env) :: starEach [] X.env := by rfl)
    (hx : X.env.scope.names.lookup x = some .local := by rfl) (hy : X.env.scope.names.lookup y = some .local := by rfl) (hs : swapsWithSole [.Tuple [.Name x px, .Name y py] kt pt] (.Tuple [a, b] k2 pt2) pos.line X.env = pure false := by rfl) :
    PS X (.Assign [.Tuple [.Name x px, .Name y py] kt pt] (.Tuple [a, b] k2 pt2) pos) (SS X.K X.mg F W (sParBB i j fo go)) := ps_of (ps_par hc hN hi hj hij hx hy (pa_cons ha (pa_cons hb pa_nil he2) he) hw hs) fun Z σ H hw => by
  obtain ⟨S, δ, o, R, hf, q⟩ := hw
  unfold sParBB at hf
  split at hf
  · rename_i ob δ1 h1
    split at hf
    · rename_i ob2 δ2 h2
      split at hf
      · rename_i h0
        cases hf
        exact ⟨S, δ, _, _, R, h1, fun a0 o0 S1 H1 s1 R1 n0 n1 e1 d1 => ⟨S1, δ1, _, δ2, R1, h2, fun a1 o1 S2 H2 s2 R2 m0 m1 e2 d2 => ⟨_, _, rfl, q _ S2 H2 (s1.s.trans s2.s) (two_own R s1 R1 n0 n1 e1 d1 s2 R2 m0 m1 e2 d2 h0.1 h0.2.1 h0.2.2)⟩⟩⟩
      · cases hf
    · cases hf
  · cases hf
theorem s_parBE {kt k2 pt2} (hc : X.calm = true) (hN : X.N.Nodup) (ha : PE X a (SFO X.K F fo)) (hb : PE X b (SE X.K F g)) (hw : swappedStores [.Tuple [.Name x px, .Name y py] kt pt] (.Tuple [a, b] k2 pt2) X.env = pure (some [x, y])) (hi : X.N[i]? = some x := by rfl) (hj : X.N[j]? = some y := by rfl) (hij : i ≠ j := by decide)
    (he : starEach (a :: [b]) X.env = (false, eval a X.env) :: starEach [b] X.env := by rfl) (he2 : starEach (b :: []) X.env = (false, eval b X.env) :: starEach [] X.env := by rfl)
    (hx : X.env.scope.names.lookup x = some .local := by rfl) (hy : X.env.scope.names.lookup y = some .local := by rfl) (hs : swapsWithSole [.Tuple [.Name x px, .Name y py] kt pt] (.Tuple [a, b] k2 pt2) pos.line X.env = pure false := by rfl) :
    PS X (.Assign [.Tuple [.Name x px, .Name y py] kt pt] (.Tuple [a, b] k2 pt2) pos) (SS X.K X.mg F W (sParBE i j fo g)) := ps_of (ps_par hc hN hi hj hij hx hy (pa_cons ha (pa_cons hb pa_nil he2) he) hw hs) fun Z σ H hw => by
  obtain ⟨S, δ, o, R, hf, q⟩ := hw
  unfold sParBE at hf
  split at hf
  · rename_i ob δ1 h1
    split at hf
    · rename_i d δ2 h2
      split at hf
      · rename_i h0
        cases hf
        exact ⟨S, δ, _, _, R, h1, fun a0 o0 S1 H1 s1 R1 n0 n1 e1 d1 => ⟨S1, δ1, d, δ2, R1, h2, fun v S2 H2 s2 R2 d2 => ⟨_, _, rfl, q _ S2 H2 (s1.s.trans s2.s) (one_own R s1 R1 n0 n1 e1 d1 s2 R2 d2 h0.1 h0.2.1 h0.2.2)⟩⟩⟩
      · cases hf
    · cases hf
  · cases hf
/-- the same where a name is read by a text within: through a tuple -/
theorem s_parBBc {kt k2 pt2} (hc : X.calm = true) (hN : X.N.Nodup) (ha : PE X a (SFO X.K F fo)) (hb : PE X b (SFO X.K F go)) (hi : X.N[i]? = some x := by rfl) (hj : X.N[j]? = some y := by rfl)
    (hx : Loc X.env.scope x := by first | exact Or.inl rfl | exact Or.inr rfl) (hy : Loc X.env.scope y := by first | exact Or.inl rfl | exact Or.inr rfl)
    (fx : X.fn x = true ∨ X.env.scope.names.lookup x = some .local := by first | exact .inl rfl | exact .inr rfl) (fy : X.fn y = true ∨ X.env.scope.names.lookup y = some .local := by first | exact .inl rfl | exact .inr rfl)
    (he : starEach (a :: [b]) X.env = (false, eval a X.env) :: starEach [b] X.env := by rfl) (he2 : starEach (b :: []) X.env = (false, eval b X.env) :: starEach [] X.env := by rfl)
    (ht : (assignEach [.Name x px, .Name y py] X.env).length = 2 := by rfl) (hst : (assignEach [.Name x px, .Name y py] X.env).findIdx? (·.1) = none := by rfl)
    (hn1 : assignEach (.Name x px :: [.Name y py]) X.env = (false, assign (.Name x px) X.env) :: assignEach [.Name y py] X.env := by rfl) (hn2 : assignEach (.Name y py :: []) X.env = (false, assign (.Name y py) X.env) :: assignEach [] X.env := by rfl)
    (hs : swapsWithSole [.Tuple [.Name x px, .Name y py] kt pt] (.Tuple [a, b] k2 pt2) pos.line X.env = pure false := by rfl) (hw : swappedStores [.Tuple [.Name x px, .Name y py] kt pt] (.Tuple [a, b] k2 pt2) X.env = pure none := by rfl)
    (h1 : (assignEach [.Tuple [.Name x px, .Name y py] kt pt] X.env).map (·.2) = [assign (.Tuple [.Name x px, .Name y py] kt pt) X.env] := by rfl) :
    PS X (.Assign [.Tuple [.Name x px, .Name y py] kt pt] (.Tuple [a, b] k2 pt2) pos) (SS X.K X.mg F W (sParBB i j fo go)) := ps_of (ps_asg (pe_tup (pa_cons ha (pa_cons hb pa_nil he2) he)) (pg_tup hc (pgs_cons (pg_name hN hi hx fx) (pgs_cons (pg_name hN hj hy fy) pgs_nil)) ht hst) hs hw h1) fun Z σ H hw => by
  obtain ⟨S, δ, o, R, hf, q⟩ := hw
  unfold sParBB at hf
  split at hf
  · rename_i ob δ1 h1
    split at hf
    · rename_i ob2 δ2 h2
      split at hf
      · rename_i h0
        cases hf
        refine ⟨S, δ, _, _, R, h1, fun a0 o0 S1 H1 s1 R1 n0 n1 e1 d1 => ⟨S1, δ1, _, δ2, R1, h2, fun a1 o1 S2 H2 s2 R2 m0 m1 e2 d2 => ⟨by show 2 ≤ sizeLine; decide, fun p hp => ?_⟩⟩⟩
        obtain ⟨R3, s3, n3⟩ := lay_fresh (o := .tup [.ref a0, .ref a1]) R2 hp
        have s4 := s2.trans s3
        have w := two_own R s1 R1 n0 n1 e1 d1 s4 R3 m0 m1 (s3.keep _ _ e2 (ob_nt d2) (own_new R1 s2 m0).2.2) d2 h0.1 h0.2.1 h0.2.2
        exact ⟨p, _, rfl, SqT.of upd_same, rfl, _, _, rfl, _, _, rfl, rfl, q _ S2 _ (s1.s.trans s4.s) w⟩
      · cases hf
    · cases hf
  · cases hf
end
@[simp] theorem Wp_oLst {ff : MA} {δ : DE} {Q : Ob × DE → Prop} : Wp (oLst ff δ) Q ↔ Wp (ff δ) fun p => Q (.lst p.1, p.2) := by
  unfold oLst
  rcases ff δ with _ | ⟨x, δ1⟩ <;> simp
@[simp] theorem wp_sParBB {i j : Nat} {fo go : MO'} {δ : DE} {QS : Out → Prop} : Wp (sParBB i j fo go δ) QS ↔ Wp (fo δ) fun p => Wp (go p.2) fun q => (free0 i q.2 = true ∧ free0 j q.2 = true ∧ i ≠ j) ∧ QS (.nx ((q.2.set i (.ow p.1)).set j (.ow q.1))) := by
  unfold sParBB
  rcases fo δ with _ | ⟨x, δ1⟩ <;> simp
  rcases go δ1 with _ | ⟨y, δ2⟩ <;> simp
@[simp] theorem wp_sParBE {i j : Nat} {fo : MO'} {g : M} {δ : DE} {QS : Out → Prop} : Wp (sParBE i j fo g δ) QS ↔ Wp (fo δ) fun p => Wp (g p.2) fun q => (free0 i q.2 = true ∧ free0 j q.2 = true ∧ i ≠ j) ∧ QS (.nx ((q.2.set i (.ow p.1)).set j (.sh q.1))) := by
  unfold sParBE
  rcases fo δ with _ | ⟨x, δ1⟩ <;> simp
  rcases g δ1 with _ | ⟨y, δ2⟩ <;> simp
end Sd

/-! what dict([..]) and {k: v for ..} are to a law's mathematics. -/
namespace Sd
open PySem PySem.Spec PyProof.Rows L2
open Evl (Ex)
section
variable {f : M} {δ : DE} {QO : Ob × DE → Prop} {it : MA} {gg : MG} {tf : MT} {fk fv : M} {vs : List Nat}
/-- the pairs, as a dict's -/
def mkdK (Q : Ob × DE → Prop) : D × DE → Prop
  | (.list ds, δ1) => Wp (pairsK ds) fun l => Q (.dct (kD (mrgT [] l)), δ1)
  | _ => False
@[simp] theorem mkdK_l {ds : List D} : mkdK QO (.list ds, δ) ↔ Wp (pairsK ds) fun l => QO (.dct (kD (mrgT [] l)), δ) := Iff.rfl
@[simp] theorem wp_oDict : Wp (oDict f δ) QO ↔ Wp (f δ) (mkdK QO) := by
  unfold oDict
  rcases f δ with _ | ⟨x, δ1⟩
  · simp
  cases x <;> simp [mkdK]
/-- a table of whole numbers, made of pairs one after another -/
def mkI (kk : List (Int × D)) (l : List (Int × D)) : List (Int × D) := l.foldl (fun acc p => putT acc p.1 p.2) kk
theorem pairs_int : ∀ l : List (Int × D), pairsK (l.map fun p => .tuple [.int p.1, p.2]) = some (l.map fun p => ((Sum.inl p.1 : Key), p.2))
  | [] => rfl
  | p :: l => by
    simp only [List.map_cons, pairsK, pairs_int l]
    rfl
theorem put_inl (kk : List (Int × D)) (k : Int) (v : D) : putT (kk.map fun p => ((Sum.inl p.1 : Key), p.2)) (Sum.inl k) v = (putT kk k v).map fun p => ((Sum.inl p.1 : Key), p.2) := by
  unfold putT
  have e : ((kk.map fun p => ((Sum.inl p.1 : Key), p.2)).any fun p => decide (p.1 = Sum.inl k)) = kk.any fun p => decide (p.1 = k) := by
    rw [List.any_map]
    congr 1
    funext p
    show decide ((Sum.inl p.1 : Key) = Sum.inl k) = decide (p.1 = k)
    simp
  rw [e]
  split
  · rw [List.map_map, List.map_map]
    apply List.map_congr_left
    intro p _
    by_cases z : p.1 = k
    · simp [z]
    · simp [z]
  · simp
theorem mrg_inl : ∀ (l kk : List (Int × D)), mrgT (kk.map fun p => ((Sum.inl p.1 : Key), p.2)) (l.map fun p => ((Sum.inl p.1 : Key), p.2)) = (mkI kk l).map fun p => ((Sum.inl p.1 : Key), p.2)
  | [], _ => rfl
  | p :: l, kk => by
    have := mrg_inl l (putT kk p.1 p.2)
    unfold mrgT mkI at this ⊢
    simp only [List.map_cons, List.foldl_cons]
    rw [put_inl]
    exact this
theorem kD_inl (kk : List (Int × D)) : kD (kk.map fun p => ((Sum.inl p.1 : Key), p.2)) = dI kk := by
  unfold kD dI
  rw [List.map_map]
  rfl
/-- dict of pairs whose keys are whole numbers -/
theorem w_dictI {l : List (Int × D)} {Q : Ob × DE → Prop} (q : Q (.dct (dI (mkI [] l)), δ)) : mkdK Q (.list (l.map fun p => .tuple [.int p.1, p.2]), δ) := by
  show Wp (pairsK _) _
  refine wp_of_eq (pairs_int l) ?_
  have := mrg_inl l []
  simp only [List.map_nil] at this
  rw [this, kD_inl]
  exact q
/-- what stands at a key: the last that was put there -/
theorem mk_val : ∀ (l kk : List (Int × D)) (k : Int), valT (mkI kk l) k = match l.reverse.find? fun p => decide (p.1 = k) with
    | some p => some p.2
    | none => valT kk k
  | [], kk, k => rfl
  | p :: l, kk, k => by
    have := mk_val l (putT kk p.1 p.2) k
    unfold mkI at this ⊢
    rw [List.foldl_cons, this, List.reverse_cons, List.find?_append, valT_put]
    cases l.reverse.find? fun p => decide (p.1 = k) with
    | some q => rfl
    | none =>
      by_cases z : p.1 = k
      · simp [z]
      · have : ¬ k = p.1 := fun e => z e.symm
        simp [z, this]
/-! ### a comprehension that makes a dict -/
@[simp] theorem wp_oComp : Wp (oComp it gg tf fk fv vs δ) QO ↔ Wp (it δ) fun p => (noOwn vs p.2 = true ∧ p.1.length ≤ 100000) ∧ Wp (cRunD gg tf fk fv vs [] p.1 (wipeD p.2 vs)) fun q => QO (.dct (kD q.1), mergeD p.2 q.2 vs) := by
  unfold oComp
  rcases it δ with _ | ⟨ds, δ1⟩ <;> simp
  intro _ _
  rcases cRunD gg tf fk fv vs [] ds (wipeD δ1 vs) with _ | ⟨ys, δ2⟩ <;> simp
theorem wp_cMapD {ds : List D} {α : Type} (en : α → D) (xs : List α) (pr : α → Bool) (ky : α → Int) (o : α → D) {Q : List (Key × D) × DE → Prop} (hd : ds = xs.map en)
    (hs : ∀ x ∈ xs, Wp (gg (en x) δ) fun δ1 => Wp (tf δ1) fun p => p.1 = pr x ∧ (pr x = true → Wp (fk p.2) fun q => q.1 = .int (ky x) ∧ Wp (fv q.2) fun r => r.1 = o x ∧ wipeD r.2 vs = δ) ∧ (pr x = false → wipeD p.2 vs = δ))
    (he : Q ((mkI [] ((xs.filter pr).map fun x => (ky x, o x))).map (fun p => ((Sum.inl p.1 : Key), p.2)), δ)) : Wp (cRunD gg tf fk fv vs [] ds δ) Q := by
  subst hd
  have key : ∀ (xs : List α) (acc : List (Int × D)), (∀ x ∈ xs, Wp (gg (en x) δ) fun δ1 => Wp (tf δ1) fun p => p.1 = pr x ∧ (pr x = true → Wp (fk p.2) fun q => q.1 = .int (ky x) ∧ Wp (fv q.2) fun r => r.1 = o x ∧ wipeD r.2 vs = δ) ∧ (pr x = false → wipeD p.2 vs = δ)) →
      cRunD gg tf fk fv vs (acc.map fun p => ((Sum.inl p.1 : Key), p.2)) (xs.map en) δ = some ((mkI acc ((xs.filter pr).map fun x => (ky x, o x))).map (fun p => ((Sum.inl p.1 : Key), p.2)), δ) := by
    intro xs
    induction xs with
    | nil => intro acc _; rfl
    | cons x r ih =>
      intro acc h
      have ih := fun acc => ih acc fun y hy => h y (List.mem_cons_of_mem _ hy)
      obtain ⟨δ1, e1, ⟨b, δ2⟩, e2, hb, k1, k2⟩ := h x (List.mem_cons_self ..)
      simp only at hb k1 k2
      subst hb
      cases hp : pr x with
      | true =>
        obtain ⟨⟨y, δ3⟩, e3, hy, ⟨z, δ4⟩, e4, hz, hw⟩ := k1 hp
        simp only at hy hz hw
        subst hy hz
        rw [hp] at e2
        simp only [List.map_cons, cRunD, e1, e2, e3, e4, keyOf, hw]
        rw [put_inl, ih, List.filter_cons_of_pos hp]
        rfl
      | false =>
        rw [hp] at e2
        simp only [List.map_cons, cRunD, e1, e2, k2 hp]
        rw [ih, List.filter_cons_of_neg (by rw [hp]; simp)]
  exact wp_of_eq (key xs [] hs) he
end
end Sd

/-! a, b = a value and a new thing of one's own. -/
namespace Sd
open PySem PySem.Spec PyProof.Rows L2
open Evl (Ex)
def sParEB (i j : Nat) (g : M) (fo : MO') : MS := fun δ => match g δ with
  | some (d, δ1) => match fo δ1 with
    | some (ob, δ2) => if free0 i δ2 = true ∧ free0 j δ2 = true ∧ i ≠ j then some (.nx ((δ2.set i (.sh d)).set j (.ow ob))) else none
    | none => none
  | none => none
section
variable [TabSet]
variable {X : Cx} {F : Fr} {e a b c tg : Expr} {pos p : Pos} {f g h : M} {x y : Str} {fo go : MO'} {W : WX}
omit [TabSet] in
theorem own_setS {σ : L2.St} {δ : DE} {i : Nat} {v : V} {d : D} {a' : Addr} (hn : ¬ Own σ δ a') : ¬ Own (σ.set i (some v)) (δ.set i (.sh d)) a' := fun ⟨k, xs, h1, h2⟩ => by
  by_cases hk : i = k
  · subst hk
    have hl : i < (δ.set i (Slot.sh d)).length := (List.getElem?_eq_some_iff.mp h1).1
    rw [List.length_set] at hl
    rw [List.getElem?_set_self hl] at h1
    cases h1
  · rw [List.getElem?_set_ne hk] at h1 h2
    exact hn ⟨k, xs, h1, h2⟩
variable {i j : Nat} {px py pt : Pos}
theorem s_parEB {kt k2 pt2} (hc : X.calm = true) (hN : X.N.Nodup) (ha : PE X a (SE X.K F g)) (hb : PE X b (SFO X.K F fo)) (hw : swappedStores [.Tuple [.Name x px, .Name y py] kt pt] (.Tuple [a, b] k2 pt2) X.env = pure (some [x, y])) (hi : X.N[i]? = some x := by rfl) (hj : X.N[j]? = some y := by rfl) (hij : i ≠ j := by decide)
    (he : starEach (a :: [b]) X.env = (false, eval a X.env) :: starEach [b] X.env := by rfl) (he2 : starEach (b :: []) X.env = (false, eval b X.env) :: starEach [] X.env := by rfl)
    (hx : X.env.scope.names.lookup x = some .local := by rfl) (hy : X.env.scope.names.lookup y = some .local := by rfl) (hs : swapsWithSole [.Tuple [.Name x px, .Name y py] kt pt] (.Tuple [a, b] k2 pt2) pos.line X.env = pure false := by rfl) :
    PS X (.Assign [.Tuple [.Name x px, .Name y py] kt pt] (.Tuple [a, b] k2 pt2) pos) (SS X.K X.mg F W (sParEB i j g fo)) := ps_of (ps_par hc hN hi hj hij hx hy (pa_cons ha (pa_cons hb pa_nil he2) he) hw hs) fun Z σ H hw => by
  obtain ⟨S, δ, o, R, hf, q⟩ := hw
  unfold sParEB at hf
  split at hf
  · rename_i d δ1 h1
    split at hf
    · rename_i ob δ2 h2
      split at hf
      · rename_i h0
        cases hf
        refine ⟨S, δ, d, _, R, h1, fun v S1 H1 s1 R1 d1 => ⟨S1, δ1, _, δ2, R1, h2, fun a1 o1 S2 H2 s2 R2 m0 m1 e2 d2 => ⟨_, _, rfl, q _ S2 H2 (s1.s.trans s2.s) ?_⟩⟩⟩
        obtain ⟨y1, y2, y3⟩ := own_new R1 s2 m0
        have R3 := R2.set_sh (dq_ext s2.s d1) i (free0_of h0.1)
        refine R3.set_ow m1 (.inl y1) e2 d2 (own_setS y3) j fun z xs w => ?_
        subst z
        rw [List.getElem?_set_ne h0.2.2] at w
        exact free0_of h0.2.1 rfl xs w
      · cases hf
    · cases hf
  · cases hf
end
@[simp] theorem wp_sParEB {i j : Nat} {fo : MO'} {g : M} {δ : DE} {QS : Out → Prop} : Wp (sParEB i j g fo δ) QS ↔ Wp (g δ) fun p => Wp (fo p.2) fun q => (free0 i q.2 = true ∧ free0 j q.2 = true ∧ i ≠ j) ∧ QS (.nx ((q.2.set i (.sh p.1)).set j (.ow q.1))) := by
  unfold sParEB
  rcases g δ with _ | ⟨x, δ1⟩ <;> simp
  rcases fo δ1 with _ | ⟨y, δ2⟩ <;> simp
end Sd

/-! what no run comes to. -/
namespace Sd
open PySem PySem.Spec PyProof.Rows L2
def sVac : MS := fun _ => none
def fVac : M := fun _ => none
def lVac : MA := fun _ => none
section
variable [TabSet] {X : Cx} {F : Fr} {W : WX} {e : Expr} {st : Stmt}
theorem s_vac : PS X st (SS X.K X.mg F W sVac) := ⟨fun pins s σ H Z I hw => by
  obtain ⟨S, δ, o, R, hf, q⟩ := hw
  cases hf⟩
theorem e_vac : PE X e (SE X.K F fVac) := ⟨fun pins s σ H Q I hw => by
  obtain ⟨S, δ, d, δ', R, hf, q⟩ := hw
  cases hf⟩
end
@[simp] theorem wp_sVac {δ : DE} {Q : Out → Prop} : Wp (sVac δ) Q ↔ False := by simp [sVac]
@[simp] theorem wp_fVac {δ : DE} {Q : D × DE → Prop} : Wp (fVac δ) Q ↔ False := by simp [fVac]
end Sd

/-! A def that calls what it is handed, and hands the error on to another def that says its kind. -/
namespace Sd
open PySem PySem.Spec PyProof.Rows L2
open Evl (Ex)
/-- what isinstance says of an error of the class c -/
structure KiOk (K : PySem.W.Frag) (mg : Str → Option Value) (kt : Str → Str → Option Bool) : Prop where
  ok : ∀ c h b, kt c h = some b → ∃ D C, mg c = some (.ref D) ∧ mg h = some (.ref C) ∧ PySem.W.kitOne K (.ref D) (.ref C) = some b
/-- the word of an error -/
def pickK (kt : Str → Str → Option Bool) (c dflt : Str) : List (Str × Str) → Option Str
  | [] => some dflt
  | (h, r) :: rest => (kt c h).bind fun b => cond b (some r) (pickK kt c dflt rest)
/-- p is an error of the class c -/
def IsE (K : PySem.W.Frag) (mg : Str → Option Value) (c : Str) (o : Obj) : Prop := ∃ D, mg c = some (.ref D) ∧ ExcC K D ∧ Zc (.ref D) none o ∧ ∃ vs, o.data = .fields vs
section
variable {X : Cx} {p : Addr × Obj} {c : Str} {kt : Str → Str → Option Bool}
theorem call_isP {D : Addr} (C : ExcC X.K D) (hp : p ∈ X.pn) (hz : Zc (.ref D) none p.2) (hf : ∃ vs, p.2.data = .fields vs) : CallR X (.builtin "isinstance") (rIsE X.K D p.1) := by
  intro pins s σ H xs us Q I r h
  obtain ⟨c, cv, b, rfl, hcv, e, q⟩ := h
  cases r with
  | cons rx rr =>
    cases rr with
    | cons rt rr =>
      cases rr
      cases rx
      have ec := hcv _ rt
      subst ec
      obtain ⟨hget, _⟩ := I.pin p (List.mem_append.mpr (.inl hp))
      obtain ⟨a, oe⟩ := p
      obtain ⟨vs, hv⟩ := hf
      have J : PySem.W.InstAt s.heap a oe D none := by
        obtain ⟨oc, od, oda, osl⟩ := oe
        obtain ⟨h1, h2⟩ := hz
        dsimp only at h1 h2 hv
        subst h1 h2 hv
        exact ⟨hget, rfl, rfl, trivial⟩
      exact PySem.W.kia_one (PySem.W.handS_kitx_exc C.hg C.hk C.hs C.hd C.ha C.hn C.ht C.hm) I.kIn J e (fun z => nomatch z) fun tk => ⟨.bl b, H, I.kept (t' := tk) fun _ _ z => z, rfl, q⟩
/-- isinstance(e, T) -/
theorem pe_isP {e T : Str} {p1 p2 p3 pos : Pos} (hE : IsE X.K X.mg c p.2) (hp : p ∈ X.pn) (hk : KiOk X.K X.mg kt) (hm : X.mg "isinstance" = none) (hN : X.N[0]? = some e) (hv : Vis X.env.scope e) (hgT : Gl X T) (hg : Gl X "isinstance")
    (hd : (e == ("__debug__" : Str)) = false := by decide) (hcd : (e == ("__classdict__" : Str)) = false := by decide) (hT : (T == ("__debug__" : Str)) = false := by decide)
    (he : starEach [.Name e p2, .Name T p3] X.env = (false, eval (.Name e p2) X.env) :: starEach [.Name T p3] X.env := by rfl) (he2 : starEach [.Name T p3] X.env = (false, eval (.Name T p3) X.env) :: starEach [] X.env := by rfl) (hpl : (backTo pos (starEach [.Name T p3] X.env)).any (·.1) = false := by rfl) :
    PE X (.Call (.Name "isinstance" p1) [.Name e p2, .Name T p3] [] pos) (fun σ H Q => σ[0]? = some (some (.ref p.1)) ∧ ∃ b, kt c T = some b ∧ Q (.bl b) H) := by
  obtain ⟨D, hD, hC, hz, hf⟩ := hE
  refine ⟨fun pins s σ H Q I ⟨h0, b, hb, q⟩ => ?_⟩
  obtain ⟨D', C, k1, k2, k3⟩ := hk.ok _ _ _ hb
  rw [hD] at k1
  cases k1
  refine (pe_callB (pos := pos) (call_isP hC hp hz hf) hg hm rfl (pa_cons (pe_var hN hv hd hcd) (pa_cons (pe_glob (v := .ref C) hgT k2 rfl hT) pa_nil he2) he) (by decide) (by decide) he hpl).run pins s σ H Q I ?_
  exact ⟨_, h0, .ref C, .ref C, b, rfl, fun u r => r, k3, q⟩
def SKn (kt : Str → Str → Option Bool) (c dflt : Str) (l : List (Str × Str)) (p : Addr × Obj) : TS := fun Z σ H => ∃ w, σ[0]? = some (some (.ref p.1)) ∧ pickK kt c dflt l = some w ∧ Z.rt (.str w) H
theorem k_if {e T w dflt : Str} {l : List (Str × Str)} {rest : List Stmt} {j : Nat} {p1 p2 p3 p4 p5 p6 p7 : Pos} (hE : IsE X.K X.mg c p.2) (hp : p ∈ X.pn) (hk : KiOk X.K X.mg kt) (hm : X.mg "isinstance" = none) (r : PSs X rest (SKn kt c dflt l p))
    (hN : X.N[0]? = some e := by rfl) (hv : Vis X.env.scope e := by first | exact Or.inl rfl | exact Or.inr (Or.inl rfl) | exact Or.inr (Or.inr rfl)) (hgT : Gl X T := by rfl) (hg : Gl X "isinstance" := by rfl)
    (hd : (e == ("__debug__" : Str)) = false := by decide) (hcd : (e == ("__classdict__" : Str)) = false := by decide) (hT : (T == ("__debug__" : Str)) = false := by decide)
    (he : starEach [.Name e p2, .Name T p3] X.env = (false, eval (.Name e p2) X.env) :: starEach [.Name T p3] X.env := by rfl) (he2 : starEach [.Name T p3] X.env = (false, eval (.Name T p3) X.env) :: starEach [] X.env := by rfl) (hpl : (backTo p4 (starEach [.Name T p3] X.env)).any (·.1) = false := by rfl)
    (ht : ∀ whole, isTrue (.Call (.Name "isinstance" p1) [.Name e p2, .Name T p3] [] p4) X.env whole = (do let v ← whole; standAt (Expr.Call (.Name "isinstance" p1) [.Name e p2, .Name T p3] [] p4).pos; holding [v] (truthy v)) := by intro _; rfl) :
    PSs X (.If (.Call (.Name "isinstance" p1) [.Name e p2, .Name T p3] [] p4) [.Return (some (.Constant (.str w) j p5)) p6] [] p7 :: rest) (SKn kt c dflt ((T, w) :: l) p) := by
  refine ⟨fun pins s σ H D I ⟨w0, h0, h1, q⟩ => (pss_cons (ps_if (pt_val (pe_isP (pos := p4) hE hp hk hm hN hv hgT hg hd hcd hT he he2 hpl) ht) (pss_one (ps_ret pe_str)) pss_nil) r).run pins s σ H D I ?_⟩
  rw [pickK, Option.bind_eq_some_iff] at h1
  obtain ⟨b, h1, h2⟩ := h1
  refine ⟨h0, b, h1, b, rfl, ?_⟩
  cases b with
  | true =>
    cases h2
    exact q
  | false => exact ⟨w0, h0, h2, q⟩
theorem k_last {e T w dflt : Str} {j j2 : Nat} {p1 p2 p3 p4 p5 p6 p7 p8 : Pos} (hE : IsE X.K X.mg c p.2) (hp : p ∈ X.pn) (hk : KiOk X.K X.mg kt) (hm : X.mg "isinstance" = none)
    (hN : X.N[0]? = some e := by rfl) (hv : Vis X.env.scope e := by first | exact Or.inl rfl | exact Or.inr (Or.inl rfl) | exact Or.inr (Or.inr rfl)) (hgT : Gl X T := by rfl) (hg : Gl X "isinstance" := by rfl)
    (hd : (e == ("__debug__" : Str)) = false := by decide) (hcd : (e == ("__classdict__" : Str)) = false := by decide) (hT : (T == ("__debug__" : Str)) = false := by decide)
    (he : starEach [.Name e p2, .Name T p3] X.env = (false, eval (.Name e p2) X.env) :: starEach [.Name T p3] X.env := by rfl) (he2 : starEach [.Name T p3] X.env = (false, eval (.Name T p3) X.env) :: starEach [] X.env := by rfl) (hpl : (backTo p4 (starEach [.Name T p3] X.env)).any (·.1) = false := by rfl)
    (ht : ∀ whole, isTrue (.Call (.Name "isinstance" p1) [.Name e p2, .Name T p3] [] p4) X.env whole = (do let v ← whole; standAt (Expr.Call (.Name "isinstance" p1) [.Name e p2, .Name T p3] [] p4).pos; holding [v] (truthy v)) := by intro _; rfl) :
    PSs X [.Return (some (.IfExp (.Call (.Name "isinstance" p1) [.Name e p2, .Name T p3] [] p4) (.Constant (.str w) j p5) (.Constant (.str dflt) j2 p6) p7)) p8] (SKn kt c dflt [(T, w)] p) := by
  refine ⟨fun pins s σ H D I ⟨w0, h0, h1, q⟩ => (pss_one (ps_ret (pe_ifExp (pt_val (pe_isP (pos := p4) hE hp hk hm hN hv hgT hg hd hcd hT he he2 hpl) ht) pe_str pe_str))).run pins s σ H D I ?_⟩
  rw [pickK, Option.bind_eq_some_iff] at h1
  obtain ⟨b, h1, h2⟩ := h1
  refine ⟨h0, b, h1, b, rfl, ?_⟩
  cases b <;> cases h2 <;> exact q
end
/-! ### the def as a whole, called within an except suite -/
structure KinAt (P : Program) (w : World) (K : PySem.W.Frag) (mg : Str → Option Value) (base : Heap) (x : Str) (k : Nat) (kt : Str → Str → Option Bool) (dflt : Str) (l : List (Str × Str)) : Prop where
  ex : ∃ (f : Addr), mg x = some (.ref f) ∧ PySem.W.keepIn K (.ref f) = true ∧ ∀ (A : Around) (outer : List Env) (s : Shared) (H : Hp) (Q : VK) (p : Addr × Obj) (c word : Str), L2H.RoomH k A → L2H.PinOk outer H s p → Env0 P w K mg base A outer s H → IsE K mg c p.2 → pickK kt c dflt l = some word → Q (.str word) H →
    codeAny (model P w) A (.call (.ref f) ⟨[.ref p.1], []⟩) (CR C8.CX0 outer P w H s Q C8.E0) s
theorem kin_at {P : Program} {w : World} {K : PySem.W.Frag} {mg : Str → Option Value} {base : Heap} {x e : Str} {st : Stmt} {N : List Str} {k : Nat} {kt : Str → Str → Option Bool} {dflt : Str} {l : List (Str × Str)} (A0 : FunAt K mg x st [e]) (Sc : FnScope N [e] (defScope st))
    (hb : ∀ (cdv : Value) (A : Around) (outer : List Env) (s : Shared) (H : Hp) (f : Addr) (p : Addr × Obj) (c : Str), IsE K mg c p.2 → p ∈ (L2H.cxH C8.CX0 P w K mg base N x (defScope st) f cdv A outer s H C8.E0 p).pn →
      PSs (L2H.cxH C8.CX0 P w K mg base N x (defScope st) f cdv A outer s H C8.E0 p) (defBody st) (SKn kt c dflt l p)) : KinAt P w K mg base x (k + 1) kt dflt l := by
  obtain ⟨f, fd, F0, hm, hB⟩ := A0.ex
  obtain ⟨⟨oc, od, kV, doc, pm, an, cdv, ct, osl, rfl, lk, hcd⟩, hkp⟩ := F0
  refine ⟨f, hm, hkp, fun A outer s H Q p c word hr hpin e0 hE hw q => ?_⟩
  have KX : K.In s.heap := e0.mod.kin.keeps fun b o e => (e0.bs b o e).1
  have lim : s.heap.NoLimit := e0.mod.nolimit.keeps fun b o e => (e0.bs b o e).1
  have b := hB s [.ref p.1] KX rfl
  have hkind : ∀ y ∈ [e].zip [Value.ref p.1], (defScope st).names.lookup y.1 = some .local ∨ ((defScope st).names.lookup y.1 = some .cell ∧ ((cellsFrom (s.heap.objs.size + 1) (defScope st).names []).lookup y.1).isSome = true) := fun ⟨n, v⟩ hy => by
    rcases Sc.par n (List.of_mem_zip hy).1 with q | q
    · exact .inl q
    · exact .inr ⟨q, PySem.W.cellsFrom_some _ _ _ (.inl q)⟩
  refine codeAny_call_function hr.depth (KX _ _ lk) rfl Sc.co Sc.gen rfl (PySem.W.codeRec_of KX hcd) (b _ _ _ _ ?_)
  refine wpAny_newFunctionEnv_cells Sc.kind hkind fun env he s1 x1 => ?_
  subst he
  refine ⟨lim.keeps x1.toInCall.keep, codeAny_func ?_⟩
  have ht := hb cdv A outer s H f p c hE (List.mem_singleton.mpr rfl)
  have I : Inv (L2H.cxH C8.CX0 P w K mg base N x (defScope st) f cdv A outer s H C8.E0 p) [] (L2.start N [.ref p.1]) H s1 := L2H.inv_startH Sc hpin e0 rfl (.cons rfl .nil) x1
  refine wpAny_mono (ht.run [] s1 (L2.start N [.ref p.1]) H { nx := fun _ H' => Q .non H', rt := Q } I ⟨word, rfl, hw, q⟩) (fun fl s' hs => ?_) fun e s' hs => hs
  have fin : ∀ {σ' : L2.St} {H' : Hp} {v : V} {u : Value}, Inv (L2H.cxH C8.CX0 P w K mg base N x (defScope st) f cdv A outer s H C8.E0 p) [] σ' H' s' → RelV v u → Q v H' → CE outer P w H s Q u s' :=
    fun {σ' H' v u} J rv q => ⟨v, H', J.os, J.bare, J.base, J.hok, rv, q⟩
  cases fl with
  | ret u =>
    obtain ⟨v, σ', H', J, rv, q⟩ := hs
    exact fin J rv q
  | next =>
    obtain ⟨σ', H', J, q⟩ := hs
    exact fin (v := V.non) (u := Value.none) J rfl q
  | brk =>
    obtain ⟨_, _, _, q⟩ := hs
    exact False.elim q
  | cont =>
    obtain ⟨_, _, _, q⟩ := hs
    exact False.elim q
/-- kin(e) in the suite, e the error that it holds -/
theorem pe_kin {X : Cx} {p : Addr × Obj} {i k : Nat} {x e : Str} {p1 p2 pos : Pos} {kt : Str → Str → Option Bool} {dflt : Str} {l : List (Str × Str)} (KA : KinAt X.prog X.w X.K X.mg X.base x k kt dflt l) (hr : L2H.RoomH k X.A) (hp : p ∈ X.pn) (hg : Gl X x)
    (hN : X.N[i]? = some e) (hv : Vis X.env.scope e) (hdb : (x == ("__debug__" : Str)) = false) (hd : (e == ("__debug__" : Str)) = false) (hcd : (e == ("__classdict__" : Str)) = false)
    (he : starEach [.Name e p2] X.env = (false, eval (.Name e p2) X.env) :: starEach [] X.env) (hpl : (backTo pos (starEach [] X.env)).any (·.1) = false) :
    PE X (.Call (.Name x p1) [.Name e p2] [] pos) (fun σ H Q => σ[i]? = some (some (.ref p.1)) ∧ ∃ c w, IsE X.K X.mg c p.2 ∧ pickK kt c dflt l = some w ∧ Q (.str w) H) := by
  obtain ⟨f, hm, hk, run⟩ := KA.ex
  refine ⟨fun pins s σ H Q I ⟨h0, c, w, hE, hw, q⟩ => ?_⟩
  refine wpAny_Call_Name_kw (ld_glob I hg hm ?_ hdb)
  refine PySem.W.callWith_K (h₀ := X.base) I.ok.mod.kin hk (thn ((pa_cons (pe_var hN hv hd hcd) pa_nil he).run pos pins s σ H (fun vs H1 => vs = [.ref p.1] ∧ H1 = H) I ⟨_, h0, rfl, rfl⟩) fun us s1 ⟨vs, H1, I1, r, e1, e2⟩ => ⟨I1.kIn, ?_⟩) he hpl
  subst e1 e2
  have P1 := I1.pin p (List.mem_append_left _ hp)
  have hpin : L2H.PinOk X.stack H1 s1 p := ⟨P1.1, P1.2.1, fun hm => (List.mem_cons.mp (I1.stkSub p.1 hm)).elim P1.2.2.1 P1.2.2.2.1, P1.2.2.2.2⟩
  cases r with
  | cons r0 rr =>
    cases rr
    cases r0
    refine wpAny_call (codeAny_mono (run X.A X.stack s1 H1 Q p c w hr hpin I1.env0 hE hw q) fun r s' hq => ?_)
    cases r with
    | error e => exact (show False from hq).elim
    | ok fl =>
      cases fl with
      | ret u => exact I1.after hq
      | next => exact False.elim hq
      | brk => exact False.elim hq
      | cont => exact False.elim hq
end Sd

/-! found = None / try: found = ('told', call()) / except X as e: found = kin(e) / return found. -/
namespace Sd
open PySem PySem.Spec PyProof.Rows L2
open Evl (Ex)
theorem ps_len {X : Cx} {st : Stmt} {t : TS} (h : PS X st t) : PS X st (fun D σ H => σ.length = X.N.length → t D σ H) := ⟨fun pins s σ H D I w => h.run pins s σ H D I (w I.len)⟩
/-- return x, x in slot 1 -/
def uRt : TS := fun D σ H => match σ[1]? with
  | some (some v) => D.rt v H
  | _ => False
theorem ps_uRt {X : Cx} {x : Str} {p1 pos : Pos} (hN : X.N[1]? = some x) (hv : Vis X.env.scope x) (hd : (x == ("__debug__" : Str)) = false) (hcd : (x == ("__classdict__" : Str)) = false) : PS X (.Return (some (.Name x p1)) pos) uRt :=
  ⟨fun pins s σ H D I h => (ps_ret (pos := pos) (pe_var (i := 1) hN hv hd hcd)).run pins s σ H D I (by
    unfold uRt at h
    split at h
    · rename_i v e
      exact ⟨v, e, h⟩
    · exact h.elim)⟩
/-- what the error wishes -/
def wKin (K : PySem.W.Frag) (mg : Str → Option Value) (kt : Str → Str → Option Bool) (dflt : Str) (l : List (Str × Str)) (C : Value) (Q : VK) : XK := fun cls d H => ∃ c D w, cls = .ref D ∧ d = none ∧ mg c = some (.ref D) ∧ ExcC K D ∧ PySem.W.exmOne K (.ref D) C = some true ∧ pickK kt c dflt l = some w ∧ Q (.str w) H
def TTt (K : PySem.W.Frag) (mg : Str → Option Value) (kt : Str → Str → Option Bool) (dflt : Str) (l : List (Str × Str)) (C : Value) (tw : Str) : (XK → Hp → VK → Prop) → Hp → VK → Prop := fun tl H Q =>
  tl (wKin K mg kt dflt l C Q) H fun v H' => [V.str tw, v].length ≤ sizeLine ∧ ∀ p, H' p = none → Q (.ref p) (upd H' p (.tup [.str tw, v]))
section
variable {X : Cx} {x a q fo en kin oe tw dflt : Str} {sg : Scope} {g : Addr} {cdg : Value} {k : Nat} {kt : Str → Str → Option Bool} {l : List (Str × Str)} {C : Value}
abbrev kCx (X : Cx) (Ng : List Str) (x : Str) (sg : Scope) (g : Addr) (cdg : Value) (s : Shared) (H : Hp) : Cx := cxOf C8.CX0 X.prog X.w X.K X.mg X.base Ng x sg g cdg X.A X.stack s H C8.E0
theorem told_try {j j2 kk : Nat} {p1 p2 p3 p4 p5 p6 p7 p8 p9 p10 p11 p12 p13 p14 p15 p16 p17 p18 p19 : Pos} (KA : KinAt X.prog X.w X.K X.mg X.base kin k kt dflt l) (hr : L2H.RoomH (k + 1) X.A) (hC : X.mg oe = some C)
    (gk : ∀ s H, Gl (kCx X [a, fo, en] x sg g cdg s H) kin := by intros; rfl) (go : ∀ s H, Gl (kCx X [a, fo, en] x sg g cdg s H) oe := by intros; rfl)
    (lf : ∀ s H, (kCx X [a, fo, en] x sg g cdg s H).env.kindOf fo = some .local := by intros; rfl) (le : ∀ s H, (kCx X [a, fo, en] x sg g cdg s H).env.kindOf en = some .local := by intros; rfl)
    (sf : sg.names.lookup fo = some .local := by rfl) (se : sg.names.lookup en = some .local := by rfl)
    (nd : [a, fo, en].Nodup := by decide) (d1 : (kin == ("__debug__" : Str)) = false := by decide) (d2 : (oe == ("__debug__" : Str)) = false := by decide) (d3 : (fo == ("__debug__" : Str)) = false := by decide) (d4 : (fo == ("__classdict__" : Str)) = false := by decide)
    (d5 : (en == ("__debug__" : Str)) = false := by decide) (d6 : (en == ("__classdict__" : Str)) = false := by decide)
    (s1 : ∀ env : Env, swapsWith (.Constant .none j p2) (some (.Name fo p1)) p3.line env = pure false := by intro _; rfl)
    (s2 : ∀ env : Env, swapsWith (.Tuple [.Constant (.str tw) j2 p5, .Call (.Name a p6) [] [] p7] kk p8) (some (.Name fo p4)) p9.line env = pure false := by intro _; rfl)
    (s3 : ∀ env : Env, swapsWith (.Call (.Name kin p11) [.Name en p12] [] p13) (some (.Name fo p10)) p14.line env = pure false := by intro _; rfl)
    (t1 : ∀ env : Env, starEach [.Constant (.str tw) j2 p5, .Call (.Name a p6) [] [] p7] env = (false, eval (.Constant (.str tw) j2 p5) env) :: starEach [.Call (.Name a p6) [] [] p7] env := by intro _; rfl)
    (t2 : ∀ env : Env, starEach [.Call (.Name a p6) [] [] p7] env = (false, eval (.Call (.Name a p6) [] [] p7) env) :: starEach [] env := by intro _; rfl)
    (t3 : ∀ env : Env, starEach [.Name en p12] env = (false, eval (.Name en p12) env) :: starEach [] env := by intro _; rfl)
    (t4 : ∀ env : Env, (backTo p13 (starEach [] env)).any (·.1) = false := by intro _; rfl) :
    LamX.GivesTo X [a, fo, en] x sg g cdg [.Assign [.Name fo p1] (.Constant .none j p2) p3,
      .Try [.Assign [.Name fo p4] (.Tuple [.Constant (.str tw) j2 p5, .Call (.Name a p6) [] [] p7] kk p8) p9] [.ExceptHandler (some (.Name oe p15)) (some en) [.Assign [.Name fo p10] (.Call (.Name kin p11) [.Name en p12] [] p13) p14] p16] [] [] p17,
      .Return (some (.Name fo p18)) p19] a q (TTt X.K X.mg kt dflt l C tw) := fun f c' s H Q tl act hc h => by
  have vf : Vis sg fo := Or.inl sf
  have ve : Vis sg en := Or.inl se
  have lcf : Loc sg fo := Or.inl sf
  refine ⟨_, pss_cons (ps_set (X := (kCx X [a, fo, en] x sg g cdg s H).nox) (i := 1) nd rfl lcf pe_non (s1 _) (.inl rfl)) (pss_cons (u := uRt)
    (ps_try_as (X := (kCx X [a, fo, en] x sg g cdg s H).nox) (i := 2) (Wout := fun _ _ _ _ => False) (c := C)
      (ts := fun e cls d D σ H' => σ.length = 3 → σ[2]? = some (some (.ref e)) ∧ ∃ c D' w, cls = .ref D' ∧ d = none ∧ X.mg c = some (.ref D') ∧ ExcC X.K D' ∧ pickK kt c dflt l = some w ∧ D.nx (σ.set 1 (some (.str w))) H')
      (tb := fun W D σ H' => ∃ Ech : XK, (∀ cls d σ' H', Ech cls d H' → W cls d σ' H') ∧ σ[0]? = some (some (.ref f)) ∧ H' c' = some (LamX.CodeO c' q) ∧ tl Ech H' fun v H2 => [V.str tw, v].length ≤ sizeLine ∧ ∀ p, H2 p = none → D.nx (σ.set 1 (some (.ref p))) (upd H2 p (.tup [.str tw, v])))
      rfl rfl nd rfl (le s H) ⟨go s H, d2, .inl hC⟩ (fun u s' ⟨_, _, _, _, _, _, _, _, _, _, _, _, _, _, _, _, w⟩ => w.elim)
      (fun W pn xe tk _ => ⟨fun pins s' σ H' D I ⟨Ech, hW, h1, h2, h3⟩ => (pss_one (ps_set (i := 1) nd rfl lcf (pe_tup (pa_cons pe_str (pa_cons (act W pn xe Ech p6 p7 tk hW) pa_nil (t2 _)) (t1 _))) (s2 _) (.inl rfl))).run pins s' σ H' D I ⟨h1, h2, h3⟩⟩)
      (fun e ob cls d pn hz hf => pss_one ⟨fun pins s' σ H' D I w => by
        obtain ⟨w0, c, D', wd, rfl, rfl, k1, k2, k3, k4⟩ := w I.len
        exact (ps_set (X := (kCx X [a, fo, en] x sg g cdg s H).nox.suite e ((e, ob) :: pn)) (i := 1) nd rfl lcf (pe_kin (p := (e, ob)) (i := 2) KA ⟨(hr.deeper (kCx X [a, fo, en] x sg g cdg s H).env).dp, (hr.deeper (kCx X [a, fo, en] x sg g cdg s H).env).un⟩ List.mem_cons_self (gk s H) rfl ve d1 d5 d6 (t3 _) (t4 _)) (s3 _) (.inl rfl)).run pins s' σ H' D I ⟨w0, c, wd, ⟨D', k1, k2, hz, hf⟩, k3, k4⟩⟩))
    (pss_one (ps_uRt rfl vf d3 d4))), ?_⟩
  refine ⟨wKin X.K X.mg kt dflt l C Q, fun cls d σ' H' z => ?_, rfl, hc, h⟩
  obtain ⟨c, D, w, rfl, rfl, k1, k2, k3, k4, k5⟩ := z
  refine ⟨true, k3, fun _ e he => fun hl => ?_, fun z => by cases z⟩
  rw [List.length_set] at hl
  match σ', hl with
  | [x0, x1, x2], _ => exact ⟨rfl, c, D, w, rfl, rfl, k1, k2, k4, k5⟩
end
/-! ### at the call -/
variable [TabSet]
def SR2 (K : PySem.W.Frag) (mg : Str → Option Value) (F : Fr) (E : XK) (fr : DE → Option (Res × DE)) : TE := fun σ H Q => ∃ S δ r δ', RSt K F S H σ δ ∧ fr δ = some (r, δ') ∧ match r with
  | .ret d => ∀ v S' H', Stp S H S' H' σ δ δ' → RSt K F S' H' σ δ' → Dq S' v d → Q v H'
  | .exc c none => ∀ S' H' cv, Stp S H S' H' σ δ δ' → RSt K F S' H' σ δ' → mg c = some cv → E cv none H'
  | .exc _ (some _) => False
theorem r_call2 {X : Cx} {F : Fr} {e : Expr} {es : List Expr} {pos p : Pos} {fa : MA} {x : Str} {k : Nat} {m : MF} {E : XK} (tk : Takes X (fun cls d _ H => E cls d H)) (D0 : DefOk X.prog X.w X.K X.mg X.base x k (spF X.mg m)) (hr : Room k X.A) (ha : PA X (e :: es) (SA X.K F fa)) (hg : Gl X x := by rfl) (hdb : (x == ("__debug__" : Str)) = false := by decide)
    (he : starEach (e :: es) X.env = (false, eval e X.env) :: starEach es X.env := by rfl) (hpl : (backTo pos (starEach es X.env)).any (·.1) = false := by rfl) :
    PE X (.Call (.Name x p) (e :: es) [] pos) (SR2 X.K X.mg F E (rCall m fa)) := by
  obtain ⟨fn, fd, ps, FO, hm, hk, hb⟩ := D0.ex
  refine ⟨fun pins s σ H Q I hw => (pe_callS FO hr hg hm hk hb (fun σ => passAt tk σ) ha hdb he hpl).run pins s σ H Q I ?_⟩
  obtain ⟨S, δ, r, δ', R, hf, q⟩ := hw
  unfold rCall at hf
  split at hf
  · rename_i ds δ1 h1
    refine ⟨S, δ, ds, δ1, R, h1, fun vs S1 H1 s1 R1 d1 => ?_⟩
    split at hf
    · rename_i r0 h2
      cases hf
      refine ⟨S1, ds, _, R1.sub, d1, h2, ?_⟩
      cases r with
      | ret d => exact fun v S2 H2 g2 d2 => q v S2 H2 (s1.trans (Stp.grow g2)) (R1.grow g2) d2
      | exc c p =>
        cases p with
        | none => exact fun S2 H2 cv g2 hc => q S2 H2 cv (s1.trans (Stp.grow g2)) (R1.grow g2) hc
        | some p => exact q.elim
    · cases hf
  · cases hf
omit [TabSet] in
/-- the kinds of errors, as facts -/
structure KtOk (K : PySem.W.Frag) (mg : Str → Option Value) (kt : Str → Str → Option Bool) (C : Value) : Prop where
  ki : KiOk K mg kt
  ex : ∀ c h b, kt c h = some b → ∃ D, mg c = some (.ref D) ∧ ExcC K D ∧ PySem.W.exmOne K (.ref D) C = some true
omit [TabSet] in
def fToldT (kt : Str → Str → Option Bool) (dflt : Str) (l : List (Str × Str)) (tw : Str) (fr : DE → Option (Res × DE)) : M := fun δ => (fr δ).bind fun p => match p.1 with
  | .ret d => some (wP [.str tw, d], p.2)
  | .exc c none => (pickK kt c dflt l).map fun r => (.str r, p.2)
  | .exc _ (some _) => none
omit [TabSet] in
theorem pickK_ex {kt : Str → Str → Option Bool} {c dflt w : Str} {h r : Str} {l : List (Str × Str)} (e : pickK kt c dflt ((h, r) :: l) = some w) : ∃ b, kt c h = some b := by
  rw [pickK, Option.bind_eq_some_iff] at e
  obtain ⟨b, e, _⟩ := e
  exact ⟨b, e⟩
theorem e_lamT {X : Cx} {F : Fr} {x a q dflt tw : Str} {h0 : Str × Str} {l : List (Str × Str)} {C : Value} {st : Stmt} {c P : Addr} {k : Nat} {Ng : List Str} {params : Arguments} {body : Expr} {scope : Scope} {p lpos pos : Pos} {fr : DE → Option (Res × DE)} {kt : Str → Str → Option Bool}
    (t0 : tabs F.S0 F.H0) (KT : KtOk X.K X.mg kt C) (FA : FunAt X.K X.mg x st [a]) (Sg : FnScope Ng [a] (defScope st))
    (hG : ∀ g cdv, LamX.GivesTo X Ng x (defScope st) g cdv (defBody st) a q (TTt X.K X.mg kt dflt (h0 :: l) C tw)) (LA : LamAt X.base X.mg c P q) (hr : Room (k + 2) X.A)
    (hbody : ∀ (A : Around) (outer : List Env) (s : Shared) (H : Hp) (E : XK) (f c' : Addr), Room k (A.deeper (LamX.lamEnv X scope s.heap.objs.size f c')) → PE (LamX.lamCx X A outer s H E scope f c') body (SR2 X.K X.mg F E fr))
    (hq : X.env.qual ++ "<lambda>" = q := by rfl) (hcode : X.env.code = .ref c := by rfl) (hg : Gl X x := by rfl) (hNg : Ng[0]? = some a := by rfl) (hva : Vis (defScope st) a := by first | exact Or.inl rfl | exact Or.inr (Or.inl rfl) | exact Or.inr (Or.inr rfl))
    (L : LamX.LamS X.env.scope scope := by exact LamX.lamS_by (by rfl)) (hdef : defaultsOf params X.env = ([], []) := by rfl)
    (hbind : ∀ (q : Str) (cl : List (Str × Addr)) (pm cv ctv : Value), bindArgs (PySem.W.kla_fn "<lambda>" q params body scope cl pm cv ctv) ⟨[], []⟩ = pure [] := by intros; rfl)
    (hdb : (x == ("__debug__" : Str)) = false := by decide) (hd : (a == ("__debug__" : Str)) = false := by decide) (hcd : (a == ("__classdict__" : Str)) = false := by decide) :
    PE X (.Call (.Name x p) [.Lambda params body scope lpos] [] pos) (SE X.K F (fToldT kt dflt (h0 :: l) tw fr)) := by
  refine pe_of fun S δ d δ' σ H Q R hf qq => ⟨_, pe_told FA hg Sg hNg hva hG hq LA.tb hcode LA.mem LA.uq hr L hdef hbind hbody hdb hd hcd, (R.tb0 t0).1, fun H1 eN t1 dm => ?_⟩
  obtain ⟨R1, s1⟩ := R.tabled t0 eN t1 dm
  rw [fToldT, Option.bind_eq_some_iff] at hf
  obtain ⟨⟨r, δ1⟩, h1, h2⟩ := hf
  cases r with
  | ret d0 =>
    cases h2
    refine ⟨S, δ, _, _, R1, h1, fun v S2 H2 s2 R2 d2 => ⟨by simp [sizeLine_eq], fun p hp => ?_⟩⟩
    obtain ⟨S3, g3, d3⟩ := pair_new R2.sub hp (.str tw) d2
    exact qq _ S3 _ ((s1.trans s2).trans (Stp.grow g3)) (R2.grow g3) d3
  | exc c0 p0 =>
    cases p0 with
    | some p1 => cases h2
    | none =>
      obtain ⟨w, h3, h4⟩ := Option.map_eq_some_iff.mp h2
      cases h4
      refine ⟨S, δ, _, _, R1, h1, fun S2 H2 cv s2 R2 hc => ?_⟩
      obtain ⟨b, hb⟩ := pickK_ex h3
      obtain ⟨D, e1, e2, e3⟩ := KT.ex _ _ _ hb
      rw [hc] at e1
      cases e1
      exact ⟨c0, D, w, rfl, rfl, hc, e2, e3, h3, qq _ S2 H2 (s1.trans s2) R2 (.str w)⟩
omit [TabSet] in
/-- the word of an error, or what is told -/
def toldKT (kt : Str → Str → Option Bool) (dflt : Str) (l : List (Str × Str)) (tw : Str) (Q : D × DE → Prop) : Res × DE → Prop
  | (.ret d, δ) => Q (wP [.str tw, d], δ)
  | (.exc c none, δ) => Wp (pickK kt c dflt l) fun r => Q (.str r, δ)
  | (.exc _ (some _), _) => False
omit [TabSet] in
@[simp] theorem toldKT_r {kt : Str → Str → Option Bool} {l : List (Str × Str)} {dflt tw : Str} {d : D} {Q : D × DE → Prop} {δ : DE} : toldKT kt dflt l tw Q (.ret d, δ) ↔ Q (wP [.str tw, d], δ) := Iff.rfl
omit [TabSet] in
@[simp] theorem toldKT_e {kt : Str → Str → Option Bool} {l : List (Str × Str)} {dflt tw : Str} {c} {Q : D × DE → Prop} {δ : DE} : toldKT kt dflt l tw Q (.exc c none, δ) ↔ Wp (pickK kt c dflt l) fun r => Q (.str r, δ) := Iff.rfl
omit [TabSet] in
@[simp] theorem wp_fToldT {kt : Str → Str → Option Bool} {l : List (Str × Str)} {dflt tw : Str} {ff : DE → Option (Res × DE)} {Q : D × DE → Prop} {δ : DE} : Wp (fToldT kt dflt l tw ff δ) Q ↔ Wp (ff δ) (toldKT kt dflt l tw Q) := by
  unfold fToldT
  rcases ff δ with _ | ⟨r, δ1⟩
  · simp
  rcases r with d | ⟨c, _ | p⟩ <;> simp [toldKT]
end Sd

/-! The facts of kinds; range(a, b, 2). -/
namespace Sd
open PySem PySem.Spec PyProof.Rows L2
open Evl (Ex)
def KFacts (K : PySem.W.Frag) (mg : Str → Option Value) : List ((Str × Str) × Bool) → Prop
  | [] => True
  | p :: r => (∃ D C, mg p.1.1 = some (.ref D) ∧ mg p.1.2 = some (.ref C) ∧ PySem.W.kitOne K (.ref D) (.ref C) = some p.2) ∧ KFacts K mg r
def EFacts (K : PySem.W.Frag) (mg : Str → Option Value) (C : Value) : List Str → Prop
  | [] => True
  | c :: r => (∃ D, mg c = some (.ref D) ∧ ExcC K D ∧ PySem.W.exmOne K (.ref D) C = some true) ∧ EFacts K mg C r
theorem kfacts_mem {K : PySem.W.Frag} {mg : Str → Option Value} : ∀ {tab : List ((Str × Str) × Bool)}, KFacts K mg tab → ∀ p ∈ tab, ∃ D C, mg p.1.1 = some (.ref D) ∧ mg p.1.2 = some (.ref C) ∧ PySem.W.kitOne K (.ref D) (.ref C) = some p.2
  | q :: r, ⟨z1, z2⟩, p, hp => by
    rcases List.mem_cons.mp hp with rfl | hp
    · exact z1
    · exact kfacts_mem z2 p hp
theorem efacts_mem {K : PySem.W.Frag} {mg : Str → Option Value} {C : Value} : ∀ {cs : List Str}, EFacts K mg C cs → ∀ c ∈ cs, ∃ D, mg c = some (.ref D) ∧ ExcC K D ∧ PySem.W.exmOne K (.ref D) C = some true
  | q :: r, ⟨z1, z2⟩, p, hp => by
    rcases List.mem_cons.mp hp with rfl | hp
    · exact z1
    · exact efacts_mem z2 p hp
theorem mtOf_mem {tab : List ((Str × Str) × Bool)} {c h : Str} {b : Bool} (e : mtOf tab c h = some b) : ((c, h), b) ∈ tab := by
  unfold mtOf at e
  cases hf : tab.find? (fun p => p.1.1 == c && p.1.2 == h) with
  | none =>
    rw [hf] at e
    cases e
  | some p =>
    rw [hf] at e
    cases e
    have h1 := List.find?_some hf
    rw [Bool.and_eq_true] at h1
    have e1 : p.1.1 = c := eq_of_beq h1.1
    have e2 : p.1.2 = h := eq_of_beq h1.2
    have h2 := List.mem_of_find?_eq_some hf
    rw [← e1, ← e2]
    exact h2
theorem kt_ok {K : PySem.W.Frag} {mg : Str → Option Value} {C : Value} {tab : List ((Str × Str) × Bool)} {cs : List Str} (h1 : KFacts K mg tab) (h2 : EFacts K mg C cs) (h3 : tab.all (fun p => cs.contains p.1.1) = true) : KtOk K mg (mtOf tab) C :=
  ⟨⟨fun c h b e => kfacts_mem h1 _ (mtOf_mem e)⟩, fun c h b e => by
    have z := List.all_eq_true.mp h3 _ (mtOf_mem e)
    exact efacts_mem h2 c (by simpa using z)⟩
section
variable {K : PySem.W.Frag} {mg : Str → Option Value} {h : Heap}
theorem kit_at {x y : Str} {C D : Addr} {b : Bool} (KX : K.In h) (G : h.Ns mainGlobals mg) (a : PySem.W.nsIn K mainGlobals x = some (some (.ref C))) (a' : PySem.W.nsIn K mainGlobals y = some (some (.ref D))) (e : PySem.W.kitOne K (.ref C) (.ref D) = some b) :
    ∃ D C, mg x = some (.ref D) ∧ mg y = some (.ref C) ∧ PySem.W.kitOne K (.ref D) (.ref C) = some b := ⟨_, _, PySem.W.mg_of KX G a, PySem.W.mg_of KX G a', e⟩
theorem excc_at {x y : Str} {D O : Addr} (KX : K.In h) (G : h.Ns mainGlobals mg) (a : PySem.W.nsIn K mainGlobals x = some (some (.ref D))) (a' : PySem.W.nsIn K mainGlobals y = some (some (.ref O)))
    (hg : PySem.W.findIn K (.ref D) "__getattribute__" = some (some (.builtin "BaseException.__getattribute__")))
    (hk : PySem.W.findIn K (.ref D) "__getattr__" = some none)
    (hs : PySem.W.subIn K (.ref D) (.type "BaseException") = some true)
    (hd : PySem.W.hasDictIn K D = true)
    (ha : PySem.W.findIn K (.ref D) "__class__" = some (some (.builtin "object.__class__")))
    (hn : PySem.W.specialIn K (.builtin "object.__class__") "__get__" = some (some (.builtin "getset_descriptor.__get__")))
    (ht : PySem.W.takesIn K (.builtin "object.__class__") = some true)
    (hm : PySem.W.mroIn K D (.type "object") = some true)
    (e : PySem.W.exmOne K (.ref D) (.ref O) = some true) :
    ∃ D, mg x = some (.ref D) ∧ ExcC K D ∧ PySem.W.exmOne K (.ref D) ((mg y).getD .none) = some true :=
  ⟨D, PySem.W.mg_of KX G a, ⟨hg, hk, hs, hd, ha, hn, ht, hm⟩, by rw [PySem.W.mg_of KX G a']; exact e⟩
end
/-! ### tuple(range(a, b, 2)) -/
/-- a, a + 2, .. below b -/
def rg2V (a b : Int) : List V := (List.range ((b - a + 1) / 2).toNat).map fun i => V.int (a + (i : Nat) * 2)
def rg2D (a b : Int) : List D := (List.range ((b - a + 1) / 2).toNat).map fun i => (.int (a + (i : Nat) * 2) : D)
theorem dqa_rg2 (S : Hp) (a b : Int) : DqAll S (rg2V a b) (rg2D a b) := by
  unfold rg2V rg2D
  generalize List.range ((b - a + 1) / 2).toNat = l
  induction l with
  | nil => exact .nil
  | cons i r ih => exact .cons (.int _) ih
theorem rangeSize_two (a b : Int) : Builtin.Range.rangeSize a b 2 = (((b - a + 1) / 2).toNat : Int) := by
  unfold Builtin.Range.rangeSize
  simp only [show (2 : Int) > 0 by decide, if_true]
  split <;> omega
theorem small_two {a b : Int} (ha : -(2 ^ 62) ≤ a) (ha' : a < 2 ^ 62) (hb : -(2 ^ 62) ≤ b) (hb' : b < 2 ^ 62) : Builtin.Range.small a b 2 = true := by
  unfold Builtin.Range.small
  rw [rangeSize_two]
  simp only [Builtin.Range.rangeFitsLong, Bool.and_eq_true, Bool.or_eq_true, decide_eq_true_eq, beq_iff_eq, show (2 : Int) > 0 by decide, if_true]
  omega
theorem vals_rg2 {a b : Int} {acc : Array Value} (h : PySem.ItemsOf (fun i v => ∃ t, v = .int (a + i * 2) t) acc ((b - a + 1) / 2).toNat) : Vals (rg2V a b) acc.toList := by
  have e : acc.toList.length = ((b - a + 1) / 2).toNat := by rw [Array.length_toList]; exact h.1
  unfold rg2V
  rw [← e]
  refine vals_of_get acc.toList _ fun j u hj => ?_
  obtain ⟨t, rfl⟩ := h.2 j u (by rw [← hj, Array.getElem?_toList])
  exact ⟨t, rfl⟩
/-- range(a, b, 2): as an argument -/
def PRg2 (X : Cx) (e : Expr) (te : L2.St → Hp → (Int → Int → Hp → Prop) → Prop) : Prop := ∀ (pins : List (Addr × Obj)) (s : Shared) (σ : L2.St) (H : Hp) (Q : Int → Int → Hp → Prop), Inv X pins σ H s → te σ H Q →
  wpAny (model X.prog X.w) X.A (eval e X.env) (fun x s1 => ∃ r a b t u v H1, x = .ref r ∧ IsRange s1.heap r a b 2 t u v ∧ Inv X pins σ H1 s1 ∧ Q a b H1) X.xe s
section
variable {X : Cx} {e a b : Expr} {te : L2.St → Hp → (Int → Int → Hp → Prop) → Prop} {pos : Pos}
theorem pe_tupRg2 {p pos : Pos} (hc : X.calm = true) (hg : Gl X "tuple") (hm : X.mg "tuple" = none) (he : PRg2 X e te) (na : starEach [e] X.env = (false, eval e X.env) :: starEach [] X.env := by rfl) :
    PE X (.Call (.Name "tuple" p) [e] [] pos) (fun σ H Q => te σ H fun a b H1 => RgOk a b ∧ NewT H1 Q (rg2V a b)) := by
  refine ⟨fun pins s σ H Q I h => Call_ (ld_blt I hg hm boot_tuple (PyProof.Rows.callWith_type1 (args_cons (thn (he pins s σ H _ I h) fun x s1 ⟨r, a, b, t, u, v, H1, ex, hr, J, ok, q⟩ => args_nil ?_) na) na))⟩
  subst ex
  obtain ⟨b1, b2, b3, b4, b5⟩ := ok
  refine call_tuple_range (n := ((b - a + 1) / 2).toNat) (J.ok.hd hc) hr (small_two b1 b2 b3 b4) (rangeSize_two a b) (by omega) fun h1 tk acc hk hi => ?_
  have J2 : Inv X pins σ H1 { s1 with heap := h1, toks := tk } := J.kept hk
  have w := end_t (us := acc.toList) J2 (vals_rg2 hi) (by unfold rg2V; rw [List.length_map, List.length_range, sizeLine_eq]; omega) tk q
  rw [Array.toArray_toList] at w
  exact w
variable [TabSet] {F : Fr} {f g : M}
theorem rg2_2 {pp p2 : Pos} {kk : Nat} (hg : Gl X "range" := by rfl) (hm : X.mg "range" = none) (ha : PE X a (SE X.K F f)) (hb : PE X b (SE X.K F g))
    (hs : starEach [a, b, .Constant (.int 2) kk p2] X.env = (false, eval a X.env) :: starEach [b, .Constant (.int 2) kk p2] X.env := by rfl)
    (hs2 : starEach [b, .Constant (.int 2) kk p2] X.env = (false, eval b X.env) :: starEach [.Constant (.int 2) kk p2] X.env := by rfl)
    (hs3 : starEach [.Constant (.int 2) kk p2] X.env = (false, eval (.Constant (.int 2) kk p2) X.env) :: starEach [] X.env := by rfl)
    (hpl : (backTo pos (starEach [b, .Constant (.int 2) kk p2] X.env)).any (·.1) = false := by rfl) : PRg2 X (.Call (.Name "range" pp) [a, b, .Constant (.int 2) kk p2] [] pos) (SRg X.K F (r2 f g)) := by
  intro pins s σ H Q I ⟨S, δ, i, j, δ', R, hf, q⟩
  unfold r2 at hf
  split at hf
  · rename_i n δ1 h1
    split at hf
    · rename_i m δ2 h2
      cases hf
      have A := (pa_cons ha (pa_cons hb (pa_cons (e_int (F := F) (i := 2)) pa_nil hs3) hs2) hs).run pos pins s σ H (fun vs H1 => vs = [.int i, .int j, .int 2] ∧ Q i j H1) I
        ⟨S, δ, _, δ1, R, h1, fun v S1 H1 s1 R1 d1 => ⟨S1, δ1, _, _, R1, h2, fun w S2 H2 s2 R2 d2 => ⟨S2, _, .int 2, _, R2, rfl, fun u S3 H3 s3 R3 d3 => ⟨by rw [dq_int d1, dq_int d2, dq_int d3], q S3 H3 ((s1.trans s2).trans s3) R3⟩⟩⟩⟩
      refine Call_ (ld_blt I hg hm boot_range (PyProof.Rows.callWith_type1 (thn A fun us s1 ⟨vs, H1, I1, r1, e1, q1⟩ => ?_) hs hpl))
      subst e1
      cases r1 with
      | cons r rr =>
        cases rr with
        | cons r' rr =>
          cases rr with
          | cons r'' rr =>
            cases rr
            obtain ⟨t, rfl⟩ := r
            obtain ⟨t', rfl⟩ := r'
            obtain ⟨t'', rfl⟩ := r''
            exact call_range_3 (by decide) ⟨_, i, j, t, t', t'', H1, rfl, IsRange.new _ _ _ _ _ _ _, I1.kept fun b u e => Heap.get?_push_of_some _ e, q1⟩ (.inl (PyProof.noPylong_small (by decide)))
    · cases hf
  · cases hf
omit [TabSet] in
def fTupRg2 (fr : MR) : M := fun δ => match fr δ with
  | some (a, b, δ') => if rgOk a b = true then some (.tuple (rg2D a b), δ') else none
  | none => none
theorem e_tupRg2 {pp : Pos} {fr : MR} (hc : X.calm = true) (hg : Gl X "tuple" := by rfl) (hm : X.mg "tuple" = none) (he : PRg2 X e (SRg X.K F fr)) (na : starEach [e] X.env = (false, eval e X.env) :: starEach [] X.env := by rfl) : PE X (.Call (.Name "tuple" pp) [e] [] pos) (SE X.K F (fTupRg2 fr)) := by
  refine pe_of fun S δ d δ' σ H Q R hf q => ⟨_, pe_tupRg2 hc hg hm he na, ?_⟩
  unfold fTupRg2 at hf
  cases h1 : fr δ with
  | none => rw [h1] at hf; cases hf
  | some p =>
    obtain ⟨i, j, δ1⟩ := p
    rw [h1] at hf
    simp only at hf
    split at hf
    · rename_i hk
      cases hf
      refine ⟨S, δ, i, j, _, R, h1, fun S1 H1 s1 R1 => ⟨rgOk_of hk, fun p its n hp => ?_⟩⟩
      obtain ⟨g1, g2⟩ := grow_tup R1.sub its n hp (dqa_rg2 S1 i j)
      exact q _ _ _ (s1.trans (Stp.grow g1)) (R1.grow g1) g2
    · cases hf
end
@[simp] theorem wp_fTupRg2 {fr : MR} {Q : D × DE → Prop} {δ : DE} : Wp (fTupRg2 fr δ) Q ↔ Wp (fr δ) fun p => rgOk p.1 p.2.1 = true ∧ Q (.tuple (rg2D p.1 p.2.1), p.2.2) := by
  unfold fTupRg2
  rcases fr δ with _ | ⟨i, j, δ1⟩ <;> simp
end Sd

/-! an own list and another one, as a new list. -/
namespace Sd
open PySem PySem.Spec PyProof.Rows L2
open Evl (Ex)
def lCatO (i : Nat) (g : M) : MA := fun δ => if isLst δ i = true then match g δ with
  | some (.list ys, δ1) => match δ1[i]? with
    | some (.ow (.lst xs)) => if xs.length + ys.length ≤ 100000 then some (xs ++ ys, δ1) else none
    | _ => none
  | _ => none else none
section
variable [TabSet] {X : Cx} {F : Fr} {b : Expr} {g : M} {x : Str} {pos px : Pos}
theorem f_catO {i : Nat} (hb : PE X b (SE X.K F g)) (hN : X.N[i]? = some x := by rfl) (hv : Vis X.env.scope x := by first | exact Or.inl rfl | exact Or.inr (Or.inl rfl) | exact Or.inr (Or.inr rfl)) (hd : (x == ("__debug__" : Str)) = false := by decide)
    (hcd : (x == ("__classdict__" : Str)) = false := by decide) : PE X (.BinOp (.Name x px) .Add b pos) (SF X.K F (lCatO i g)) :=
  pf_of fun S δ ds δ' σ H Q R hf q => by
    unfold lCatO at hf
    split at hf
    · rename_i hi
      obtain ⟨zs, hz⟩ := isLst_of hi
      obtain ⟨a0, vs0, ea0, _, e0, _⟩ := ow_addr R hz
      split at hf
      · rename_i ys δ1 h1
        split at hf
        · rename_i xs h2
          split at hf
          · rename_i hc
            cases hf
            refine ⟨_, pe_op op_cat (pe_var hN hv hd hcd) hb, .ref a0, ea0, S, δ, _, _, R, h1, fun v S1 H1 s1 R1 d1 => ?_⟩
            obtain ⟨a1, vs, w1, w2, w3, w4⟩ := ow_addr R1 h2
            rw [ea0] at w1
            cases w1
            obtain ⟨p2, v2, rfl, e2, d2⟩ := dq_list d1
            refine ⟨a0, p2, vs, v2, rfl, rfl, w3, R1.sub _ _ e2, sz_of (by rw [dqa_len w4, dqa_len d2]; exact hc), fun p hp => ?_⟩
            obtain ⟨R2, s2, n2⟩ := lay_fresh (o := .lst (vs ++ v2)) R1 hp
            refine q p _ S1 _ (s1.trans s2) R2 ?_ n2 upd_same (dqa_app w4 d2)
            cases hz : H p with
            | none => rfl
            | some o =>
              obtain ⟨o', q'⟩ := s1.dom p o hz
              rw [hp] at q'
              cases q'
          · cases hf
        · cases hf
      · cases hf
    · cases hf
end
@[simp] theorem wp_lCatO {i : Nat} {g : M} {δ : DE} {Q : List D × DE → Prop} : Wp (lCatO i g δ) Q ↔ isLst δ i = true ∧ Wp (g δ) fun p => ∃ ys, p.1 = .list ys ∧ ∃ xs, p.2[i]? = some (.ow (.lst xs)) ∧ xs.length + ys.length ≤ 100000 ∧ Q (xs ++ ys, p.2) := by
  unfold lCatO
  by_cases h : isLst δ i = true <;> simp [h]
  rcases g δ with _ | ⟨x, δ1⟩
  · simp
  cases x <;> simp
  rcases δ1[i]? with _ | s
  · simp
  rcases s with _ | d | (xs | kvs) | ns <;> simp
end Sd

/-! several names at once, values and things of one's own mixed. -/
namespace Sd
open PySem PySem.Spec PyProof.Rows L2
open Evl (Ex)
/-- a value, or a new thing of one's own -/
inductive Hnd where
  | v (d : D)
  | o (ob : Ob)
@[simp] def Hnd.slot : Hnd → Slot
  | .v d => .sh d
  | .o ob => .ow ob
abbrev MH := DE → Option (List Hnd × DE)
def mNil : MH := fun δ => some ([], δ)
def mV (f : M) (r : MH) : MH := fun δ => match f δ with
  | some (d, δ1) => match r δ1 with
    | some (ms, δ2) => some (.v d :: ms, δ2)
    | none => none
  | none => none
def mO (f : MO') (r : MH) : MH := fun δ => match f δ with
  | some (ob, δ1) => match r δ1 with
    | some (ms, δ2) => some (.o ob :: ms, δ2)
    | none => none
  | none => none
@[simp] def setD (δ : DE) : List Nat → List Hnd → DE
  | i :: is, m :: ms => setD (δ.set i m.slot) is ms
  | _, _ => δ
@[simp] def setV (σ : L2.St) : List Nat → List V → L2.St
  | i :: is, x :: xs => setV (σ.set i (some x)) is xs
  | _, _ => σ
def sParM (is : List Nat) (fm : MH) : MS := fun δ => match fm δ with
  | some (ms, δ1) => if ms.length = is.length ∧ is.Nodup ∧ (∀ i ∈ is, free0 i δ1 = true) then some (.nx (setD δ1 is ms)) else none
  | none => none
section
variable [TabSet]
/-- what is at hand -/
inductive Hands (F : Fr) (Hb S H : Hp) (σ : L2.St) (δ : DE) : List V → List Hnd → Prop
  | nil : Hands F Hb S H σ δ [] []
  | v {x : V} {d : D} {xs : List V} {ms : List Hnd} (h : Dq S x d) (r : Hands F Hb S H σ δ xs ms) : Hands F Hb S H σ δ (x :: xs) (.v d :: ms)
  | o {a : Addr} {u : HO} {ob : Ob} {xs : List V} {ms : List Hnd} (nb : Hb a = none) (h0 : F.H0 a = none) (n : S a = none) (e : H a = some u) (d : ObOk S u ob) (nw : ¬ Own σ δ a) (ne : V.ref a ∉ xs) (r : Hands F Hb S H σ δ xs ms) : Hands F Hb S H σ δ (.ref a :: xs) (.o ob :: ms)
theorem Hands.len {F : Fr} {Hb S H : Hp} {σ : L2.St} {δ : DE} {xs : List V} {ms : List Hnd} (h : Hands F Hb S H σ δ xs ms) : xs.length = ms.length := by
  induction h with
  | nil => rfl
  | v _ _ ih => simp [ih]
  | o _ _ _ _ _ _ _ _ ih => simp [ih]
theorem dq_there {S : Hp} {a : Addr} {d : D} (h : Dq S (.ref a) d) : ∃ o, S a = some o := by
  cases h with
  | lst h _ => exact ⟨_, h⟩
  | tup h _ => obtain ⟨its, n, e⟩ := h; exact ⟨_, e⟩
  | wt h _ => exact ⟨_, h⟩
  | dcK h _ _ => exact ⟨_, h⟩
  | dcT h _ _ => exact ⟨_, h⟩
theorem Hands.back {F : Fr} {Hb Hb' S H : Hp} {σ : L2.St} {δ : DE} {xs : List V} {ms : List Hnd} (h : Hands F Hb S H σ δ xs ms) (k : ∀ a, Hb a = none → Hb' a = none) : Hands F Hb' S H σ δ xs ms := by
  induction h with
  | nil => exact .nil
  | v h _ ih => exact .v h ih
  | o nb h0 n e d nw ne _ ih => exact .o (k _ nb) h0 n e d nw ne ih
theorem Hands.kept {F : Fr} {Hb S H H' : Hp} {σ : L2.St} {δ : DE} {xs : List V} {ms : List Hnd} (h : Hands F Hb S H σ δ xs ms) (k : ∀ b o, H b = some o → (∀ ps, o ≠ .tbl ps) → ¬ Own σ δ b → H' b = some o) : Hands F Hb S H' σ δ xs ms := by
  induction h with
  | nil => exact .nil
  | v h _ ih => exact .v h ih
  | o nb z0 n e d nw ne _ ih => exact .o nb z0 n (k _ _ e (ob_nt d) nw) d nw ne ih
theorem Hands.notin {F : Fr} {Hb S H : Hp} {σ : L2.St} {δ : DE} {xs : List V} {ms : List Hnd} (h : Hands F Hb S H σ δ xs ms) {a : Addr} {o : HO} (k : Hb a = some o) (n : S a = none) : V.ref a ∉ xs := by
  induction h with
  | nil => simp
  | v h _ ih =>
    intro z
    rcases List.mem_cons.mp z with e | z
    · subst e
      obtain ⟨o, e⟩ := dq_there h
      rw [n] at e
      cases e
    · exact ih z
  | o nb _ _ _ _ _ _ _ ih =>
    intro z
    rcases List.mem_cons.mp z with e | z
    · cases e
      rw [k] at nb
      cases nb
    · exact ih z
theorem Stp.back {S H S' H' : Hp} {σ : L2.St} {δ δ' : DE} (s : Stp S H S' H' σ δ δ') {a : Addr} (h : H' a = none) : H a = none := by
  cases hz : H a with
  | none => rfl
  | some o =>
    obtain ⟨o', e'⟩ := s.dom a o hz
    rw [h] at e'
    cases e'
def SAm (K : PySem.W.Frag) (F : Fr) (fm : MH) : TA := fun σ H Q => ∃ S δ ms δ', RSt K F S H σ δ ∧ fm δ = some (ms, δ') ∧ ∀ vs S' H', Stp S H S' H' σ δ δ' → RSt K F S' H' σ δ' → Hands F H S' H' σ δ' vs ms → Q vs H'
variable {X : Cx} {F : Fr} {e : Expr} {es ts : List Expr} {pos p : Pos} {f : M} {fo : MO'} {fm : MH} {W : WX} {x y z : Str} {i j l : Nat}
theorem pa_imp {t t' : TA} (h : PA X es t) (w : ∀ σ H Q, t' σ H Q → t σ H Q) : PA X es t' := ⟨fun pos pins s σ H Q I hw => h.run pos pins s σ H Q I (w σ H Q hw)⟩
theorem am_nil : PA X [] (SAm X.K F mNil) := pa_imp pa_nil fun σ H Q hw => by
  obtain ⟨S, δ, ms, δ', R, hf, q⟩ := hw
  cases hf
  exact q [] S H Stp.refl R .nil
theorem am_v (he : PE X e (SE X.K F f)) (hr : PA X es (SAm X.K F fm)) (hs : starEach (e :: es) X.env = (false, eval e X.env) :: starEach es X.env := by rfl) : PA X (e :: es) (SAm X.K F (mV f fm)) := pa_imp (pa_cons he hr hs) fun σ H Q hw => by
  obtain ⟨S, δ, ms, δ', R, hf, q⟩ := hw
  unfold mV at hf
  split at hf
  · rename_i d δ1 h1
    split at hf
    · rename_i ms1 δ2 h2
      cases hf
      exact ⟨S, δ, d, δ1, R, h1, fun v S1 H1 s1 R1 d1 => ⟨S1, δ1, _, _, R1, h2, fun vs S2 H2 s2 R2 d2 => q _ S2 H2 (s1.trans s2) R2 (.v (dq_ext s2.s d1) (d2.back fun a ha => s1.back ha))⟩⟩
    · cases hf
  · cases hf
theorem am_o (he : PE X e (SFO X.K F fo)) (hr : PA X es (SAm X.K F fm)) (hs : starEach (e :: es) X.env = (false, eval e X.env) :: starEach es X.env := by rfl) : PA X (e :: es) (SAm X.K F (mO fo fm)) := pa_imp (pa_cons he hr hs) fun σ H Q hw => by
  obtain ⟨S, δ, ms, δ', R, hf, q⟩ := hw
  unfold mO at hf
  split at hf
  · rename_i ob δ1 h1
    split at hf
    · rename_i ms1 δ2 h2
      cases hf
      refine ⟨S, δ, ob, δ1, R, h1, fun a o S1 H1 s1 R1 n0 n1 e1 d1 => ⟨S1, δ1, _, _, R1, h2, fun vs S2 H2 s2 R2 d2 => q _ S2 H2 (s1.trans s2) R2 ?_⟩⟩
      obtain ⟨z1, z2, z3⟩ := own_new R s1 n0
      have e2 : H2 a = some o := s2.keep _ _ e1 (ob_nt d1) z3
      have n2 : S2 a = none := (s2.out _ _ e1).trans n1
      have z4 : ¬ Own σ δ' a := fun q => z3 (s2.own q)
      exact .o n0 z1 n2 e2 (ob_ext s2.s d1) z4 (d2.notin e1 n2) (d2.back fun b hb => s1.back hb)
    · cases hf
  · cases hf
theorem Hands.set_v {Hb S H : Hp} {σ : L2.St} {δ : DE} {xs : List V} {ms : List Hnd} (h : Hands F Hb S H σ δ xs ms) (i : Nat) (v : V) (d : D) : Hands F Hb S H (σ.set i (some v)) (δ.set i (.sh d)) xs ms := by
  induction h with
  | nil => exact .nil
  | v h _ ih => exact .v h ih
  | o nb h0 n e d nw ne _ ih => exact .o nb h0 n e d (own_setS nw) ne ih
theorem Hands.set_o {Hb S H : Hp} {σ : L2.St} {δ : DE} {xs : List V} {ms : List Hnd} (h : Hands F Hb S H σ δ xs ms) (i : Nat) {a : Addr} (ob : Ob) (ha : V.ref a ∉ xs) : Hands F Hb S H (σ.set i (some (.ref a))) (δ.set i (.ow ob)) xs ms := by
  induction h with
  | nil => exact .nil
  | v h _ ih => exact .v h (ih fun z => ha (List.mem_cons_of_mem _ z))
  | o nb h0 n e d nw ne _ ih => exact .o nb h0 n e d (own_set nw fun z => ha (by rw [z]; exact List.mem_cons_self)) ne (ih fun z => ha (List.mem_cons_of_mem _ z))
theorem free_all {is : List Nat} {i : Nat} {s : Slot} {δ : DE} (hn : i ∉ is) (hf : ∀ j ∈ is, free0 j δ = true) : ∀ j ∈ is, free0 j (δ.set i s) = true := fun j hj => by
  have h := hf j hj
  have ne : i ≠ j := fun z => hn (z ▸ hj)
  cases j with
  | zero =>
    unfold free0 at h ⊢
    rw [List.getElem?_set_ne ne]
    exact h
  | succ j => unfold free0; rfl
theorem all_set {K : PySem.W.Frag} {Hb S H : Hp} : ∀ (is : List Nat) {σ : L2.St} {δ : DE} {xs : List V} {ms : List Hnd}, RSt K F S H σ δ → Hands F Hb S H σ δ xs ms → is.Nodup → (∀ i ∈ is, free0 i δ = true) → RSt K F S H (setV σ is xs) (setD δ is ms)
  | [], _, _, _, _, R, h, _, _ => by cases h <;> exact R
  | i :: is, _, _, _, _, R, .nil, _, _ => R
  | i :: is, _, _, _, _, R, .v (d := d) h r, nd, hf => by
    rw [List.nodup_cons] at nd
    exact all_set is (R.set_sh h i (free0_of (hf i List.mem_cons_self))) (r.set_v i _ d) nd.2 (free_all nd.1 fun j hj => hf j (List.mem_cons_of_mem _ hj))
  | i :: is, _, _, _, _, R, .o (ob := ob) nb h0 n e d nw ne r, nd, hf => by
    rw [List.nodup_cons] at nd
    exact all_set is (R.set_ow n (.inl h0) e d nw i (free0_of (hf i List.mem_cons_self))) (r.set_o i ob ne) nd.2 (free_all nd.1 fun j hj => hf j (List.mem_cons_of_mem _ hj))
/-! ### two, three names, stored at once -/
theorem s_parM2 {a b : Expr} {px py pt : Pos} {kt k2 pt2} (hc : X.calm = true) (hN : X.N.Nodup) (ha : PA X [a, b] (SAm X.K F fm)) (hw : swappedStores [.Tuple [.Name x px, .Name y py] kt pt] (.Tuple [a, b] k2 pt2) X.env = pure (some [x, y])) (hi : X.N[i]? = some x := by rfl) (hj : X.N[j]? = some y := by rfl) (hij : i ≠ j := by decide)
    (hx : X.env.scope.names.lookup x = some .local := by rfl) (hy : X.env.scope.names.lookup y = some .local := by rfl) (hs : swapsWithSole [.Tuple [.Name x px, .Name y py] kt pt] (.Tuple [a, b] k2 pt2) pos.line X.env = pure false := by rfl) :
    PS X (.Assign [.Tuple [.Name x px, .Name y py] kt pt] (.Tuple [a, b] k2 pt2) pos) (SS X.K X.mg F W (sParM [i, j] fm)) := ps_of (ps_par hc hN hi hj hij hx hy ha hw hs) fun Z σ H hw => by
  obtain ⟨S, δ, o, R, hf, q⟩ := hw
  unfold sParM at hf
  split at hf
  · rename_i ms δ1 h1
    split at hf
    · rename_i h0
      cases hf
      refine ⟨S, δ, _, _, R, h1, fun vs S1 H1 s1 R1 d1 => ?_⟩
      have hl := d1.len
      rw [h0.1] at hl
      have w := all_set [i, j] R1 d1 h0.2.1 h0.2.2
      match vs, hl with
      | [v1, v2], _ => exact ⟨_, _, rfl, q _ S1 H1 s1.s w⟩
    · cases hf
  · cases hf
theorem s_parM3 {a b c : Expr} {px py pz pt : Pos} {kt k2 pt2} (hc : X.calm = true) (hN : X.N.Nodup) (ha : PA X [a, b, c] (SAm X.K F fm)) (hw : swappedStores [.Tuple [.Name x px, .Name y py, .Name z pz] kt pt] (.Tuple [a, b, c] k2 pt2) X.env = pure (some [x, y, z]))
    (hi : X.N[i]? = some x := by rfl) (hj : X.N[j]? = some y := by rfl) (hl : X.N[l]? = some z := by rfl) (hij : i ≠ j := by decide) (hil : i ≠ l := by decide) (hjl : j ≠ l := by decide)
    (hx : X.env.scope.names.lookup x = some .local := by rfl) (hy : X.env.scope.names.lookup y = some .local := by rfl) (hz : X.env.scope.names.lookup z = some .local := by rfl)
    (hs : swapsWithSole [.Tuple [.Name x px, .Name y py, .Name z pz] kt pt] (.Tuple [a, b, c] k2 pt2) pos.line X.env = pure false := by rfl) :
    PS X (.Assign [.Tuple [.Name x px, .Name y py, .Name z pz] kt pt] (.Tuple [a, b, c] k2 pt2) pos) (SS X.K X.mg F W (sParM [i, j, l] fm)) := ps_of (ps_par3 hc hN hi hj hl hij hil hjl hx hy hz ha hw hs) fun Z σ H hw => by
  obtain ⟨S, δ, o, R, hf, q⟩ := hw
  unfold sParM at hf
  split at hf
  · rename_i ms δ1 h1
    split at hf
    · rename_i h0
      cases hf
      refine ⟨S, δ, _, _, R, h1, fun vs S1 H1 s1 R1 d1 => ?_⟩
      have hl := d1.len
      rw [h0.1] at hl
      have w := all_set [i, j, l] R1 d1 h0.2.1 h0.2.2
      match vs, hl with
      | [v1, v2, v3], _ => exact ⟨_, _, _, rfl, q _ S1 H1 s1.s w⟩
    · cases hf
  · cases hf
/-! ### any number, through a tuple -/
def gNames (is : List Nat) : TGs := fun vs σ H Q => vs.length = is.length ∧ Q (setV σ is vs) H
theorem gm_nil : PGs X [] (gNames []) := ⟨fun pins s σ H vs us Q I r h => pgs_nil.run pins s σ H vs us Q I r (by
  obtain ⟨h1, h2⟩ := h
  cases vs with
  | nil => exact ⟨rfl, h2⟩
  | cons _ _ => cases h1)⟩
theorem gm_cons {px : Pos} {is : List Nat} (hN : X.N.Nodup) (r : PGs X ts (gNames is)) (hi : X.N[i]? = some x := by rfl) (hx : Loc X.env.scope x := by first | exact Or.inl rfl | exact Or.inr rfl) (fx : X.fn x = true ∨ X.env.scope.names.lookup x = some .local := by first | exact .inl rfl | exact .inr rfl)
    (hs : (assignEach (.Name x px :: ts) X.env).map (·.2) = assign (.Name x px) X.env :: (assignEach ts X.env).map (·.2) := by rfl) : PGs X (.Name x px :: ts) (gNames (i :: is)) :=
  ⟨fun pins s σ H vs us Q I rv h => (pgs_cons (pg_name hN hi hx fx) r hs).run pins s σ H vs us Q I rv (by
    obtain ⟨h1, h2⟩ := h
    cases vs with
    | nil => cases h1
    | cons v vs => exact ⟨v, vs, rfl, by simpa using h1, h2⟩)⟩
theorem s_parMc {n : Nat} {is : List Nat} {pt : Pos} {kt k2 pt2} (hc : X.calm = true) (hz : is.length = n) (hz2 : n ≤ 100000) (ha : PA X es (SAm X.K F fm)) (hg : PGs X ts (gNames is))
    (ht : (assignEach ts X.env).length = n := by rfl) (hst : (assignEach ts X.env).findIdx? (·.1) = none := by rfl)
    (hs : swapsWithSole [.Tuple ts kt pt] (.Tuple es k2 pt2) pos.line X.env = pure false := by rfl) (hw : swappedStores [.Tuple ts kt pt] (.Tuple es k2 pt2) X.env = pure none := by rfl)
    (h1 : (assignEach [.Tuple ts kt pt] X.env).map (·.2) = [assign (.Tuple ts kt pt) X.env] := by rfl) :
    PS X (.Assign [.Tuple ts kt pt] (.Tuple es k2 pt2) pos) (SS X.K X.mg F W (sParM is fm)) := ps_of (ps_asg (pe_tup ha) (pg_tup hc hg ht hst) hs hw h1) fun Z σ H hw => by
  obtain ⟨S, δ, o, R, hf, q⟩ := hw
  unfold sParM at hf
  split at hf
  · rename_i ms δ1 h1
    split at hf
    · rename_i h0
      cases hf
      refine ⟨S, δ, _, _, R, h1, fun vs S1 H1 s1 R1 d1 => ⟨sz_of (by rw [d1.len, h0.1, hz]; exact hz2), fun p hp => ?_⟩⟩
      obtain ⟨R3, s3, n3⟩ := lay_fresh (o := .tup vs) R1 hp
      have d3 : Hands F H S1 (upd H1 p (.tup vs)) σ δ1 vs ms := d1.kept fun b o e nt nw => s3.keep b o e nt nw
      have w := all_set is R3 d3 h0.2.1 h0.2.2
      have hl := d1.len
      rw [h0.1] at hl
      exact ⟨p, _, rfl, SqT.of upd_same, by rw [hl, hz], hl, q _ S1 _ (s1.s.trans s3.s) w⟩
    · cases hf
  · cases hf
end
@[simp] theorem wp_mNil {δ : DE} {Q : List Hnd × DE → Prop} : Wp (mNil δ) Q ↔ Q ([], δ) := by simp [mNil]
@[simp] theorem wp_mV {f : M} {r : MH} {δ : DE} {Q : List Hnd × DE → Prop} : Wp (mV f r δ) Q ↔ Wp (f δ) fun p => Wp (r p.2) fun q => Q (.v p.1 :: q.1, q.2) := by
  unfold mV
  rcases f δ with _ | ⟨d, δ1⟩ <;> simp
  rcases r δ1 with _ | ⟨ms, δ2⟩ <;> simp
@[simp] theorem wp_mO {f : MO'} {r : MH} {δ : DE} {Q : List Hnd × DE → Prop} : Wp (mO f r δ) Q ↔ Wp (f δ) fun p => Wp (r p.2) fun q => Q (.o p.1 :: q.1, q.2) := by
  unfold mO
  rcases f δ with _ | ⟨d, δ1⟩ <;> simp
  rcases r δ1 with _ | ⟨ms, δ2⟩ <;> simp
@[simp] theorem wp_sParM {is : List Nat} {fm : MH} {δ : DE} {QS : Out → Prop} : Wp (sParM is fm δ) QS ↔ Wp (fm δ) fun p => (p.1.length = is.length ∧ is.Nodup ∧ (∀ i ∈ is, free0 i p.2 = true)) ∧ QS (.nx (setD p.2 is p.1)) := by
  unfold sParM
  rcases fm δ with _ | ⟨d, δ1⟩ <;> simp
end Sd

namespace K70
open PySem PySem.Spec PyProof.Rows L2 Sd
def topS (i : Nat) : Stmt := PySem.Challenge.pw_rungonce_k70_whole_tours_with_paths.main.body.getD i (.Pass ⟨0, 0, 0, 0⟩)
structure Env (K : PySem.W.Frag) (mg : Str → Option Value) : Prop where
  f_is_integer : FunAt K mg "is_integer" (topS 1) ["value"]
  f_is_index : FunAt K mg "is_index" (topS 2) ["value", "count"]
  f_are_indices : FunAt K mg "are_indices" (topS 3) ["value", "count"]
  f_could_be_bells : FunAt K mg "could_be_bells" (topS 18) ["value"]
  f_rounds_of : FunAt K mg "rounds_of" (topS 19) ["bells"]
  f_could_change : FunAt K mg "could_change" (topS 20) ["bells", "value"]
  f_changed_row : FunAt K mg "changed_row" (topS 21) ["row", "change"]
  f_joint_row : FunAt K mg "joint_row" (topS 22) ["row", "other"]
  f_could_lead : FunAt K mg "could_lead" (topS 25) ["bells", "value"]
  f_rows_behind : FunAt K mg "rows_behind" (topS 26) ["row", "lead"]
  f_could_call : FunAt K mg "could_call" (topS 30) ["bells", "value"]
  f_could_compose : FunAt K mg "could_compose" (topS 31) ["calls", "value"]
  f_method_ways : FunAt K mg "method_ways" (topS 32) ["lead", "calls"]
  f_rows_composed : FunAt K mg "rows_composed" (topS 33) ["bells", "lead", "calls", "composition"]
  f_acting_rows : FunAt K mg "acting_rows" (topS 35) ["bells", "ways"]
  f_course_heads : FunAt K mg "course_heads" (topS 37) ["bells", "ways", "course"]
  f_check_bell : FunAt K mg "check_bell" (topS 39) ["bells", "bell"]
  f_check_tour : FunAt K mg "check_tour" (topS 41) ["tour"]
  f_check_tour_and_bell : FunAt K mg "check_tour_and_bell" (topS 42) ["tour", "bell"]
  f_heads_by : FunAt K mg "heads_by" (topS 43) ["tour"]
  f_tour_rows : FunAt K mg "tour_rows" (topS 44) ["tour"]
  f_is_tour : FunAt K mg "is_tour" (topS 45) ["value"]
  f_tour_heads : FunAt K mg "tour_heads" (topS 46) ["tour"]
  f_tour_path : FunAt K mg "tour_path" (topS 47) ["tour", "bell"]
  f_law_cup : FunAt K mg "_law_cup" (topS 49) ["_law_script"]
  f_law_roll : FunAt K mg "_law_roll" (topS 50) ["_law_cup_here", "_law_many"]
  f_law_some : FunAt K mg "_law_some" (topS 51) ["_law_cup_here", "_law_things"]
  f_law_behind : FunAt K mg "_law_behind" (topS 52) ["_law_row", "_law_change_here"]
  f_law_rung : FunAt K mg "_law_rung" (topS 53) ["_law_row", "_law_lead_here"]
  f_law_led : FunAt K mg "_law_led" (topS 54) ["_law_row", "_law_lead_here"]
  f_law_rounds : FunAt K mg "_law_rounds" (topS 55) ["_law_bells"]
  f_law_changes : FunAt K mg "_law_changes" (topS 56) ["_law_bells"]
  f_law_change : FunAt K mg "_law_change" (topS 57) ["_law_cup_here", "_law_bells"]
  f_law_lead : FunAt K mg "_law_lead" (topS 58) ["_law_cup_here", "_law_bells", "_law_most"]
  f_law_sort : FunAt K mg "_law_sort" (topS 59) ["_law_thing"]
  f_law_like : FunAt K mg "_law_like" (topS 60) ["_law_told", "_law_due"]
  f_law_kin : FunAt K mg "_law_kin" (topS 61) ["_law_e"]
  f_law_try : FunAt K mg "_law_try" (topS 62) ["_law_call_so"]
  f_law_method : FunAt K mg "_law_method" (topS 63) ["_law_cup_here"]
  f_law_tour : FunAt K mg "_law_tour" (topS 64) ["_law_cup_here", "_law_most"]
  f_law_ways : FunAt K mg "_law_ways" (topS 65) ["_law_tour_here"]
  f_law_rows : FunAt K mg "_law_rows" (topS 66) ["_law_tour_here"]
  f_law_heads : FunAt K mg "_law_heads" (topS 67) ["_law_tour_here"]
  f_law_odd_tours : FunAt K mg "_law_odd_tours" (topS 68) ["_law_tour_here"]
  f_law : FunAt K mg "law" (topS 69) ["_law_script"]
  n_abs : mg "abs" = none
  n_all : mg "all" = none
  n_bool : mg "bool" = none
  n_int : mg "int" = none
  n_isinstance : mg "isinstance" = none
  n_len : mg "len" = none
  n_list : mg "list" = none
  n_range : mg "range" = none
  n_sorted : mg "sorted" = none
  n_str : mg "str" = none
  n_tuple : mg "tuple" = none
  n_zip : mg "zip" = none
  x_InvalidBell : ExcOk K mg "InvalidBell"
  x_InvalidTour : ExcOk K mg "InvalidTour"
  k_OnceError : ∃ c, mg "OnceError" = some c
  kq_InvalidBell_InvalidTour : ∃ D C, mg "InvalidBell" = some (.ref D) ∧ mg "InvalidTour" = some (.ref C) ∧ PySem.W.kitOne K (.ref D) (.ref C) = some false
  kq_InvalidBell_InvalidBell : ∃ D C, mg "InvalidBell" = some (.ref D) ∧ mg "InvalidBell" = some (.ref C) ∧ PySem.W.kitOne K (.ref D) (.ref C) = some true
  kq_InvalidTour_InvalidTour : ∃ D C, mg "InvalidTour" = some (.ref D) ∧ mg "InvalidTour" = some (.ref C) ∧ PySem.W.kitOne K (.ref D) (.ref C) = some true
  kx_InvalidBell : ∃ D, mg "InvalidBell" = some (.ref D) ∧ ExcC K D ∧ PySem.W.exmOne K (.ref D) ((mg "OnceError").getD .none) = some true
  kx_InvalidTour : ∃ D, mg "InvalidTour" = some (.ref D) ∧ ExcC K D ∧ PySem.W.exmOne K (.ref D) ((mg "OnceError").getD .none) = some true
  c_MOST_CALLS : ∃ u, mg "MOST_CALLS" = some u ∧ RelV (.int 5) u
  c_MOST_CHANGES : ∃ u, mg "MOST_CHANGES" = some u ∧ RelV (.int 24) u
  c_MOST_LEADS : ∃ u, mg "MOST_LEADS" = some u ∧ RelV (.int 40) u
variable [TabSet] {P : Program} {w : World} {K : PySem.W.Frag} {mg : Str → Option Value} {base : Heap}
/-! is_integer -/
omit [TabSet] in
@[simp] def s_is_integer_0 : MS := (sRet (fAndV (f1 (uIs "int") (fVar 0)) (fNotV (f1 (uIs "bool") (fVar 0)))))
/-! is_integer -/
omit [TabSet] in
@[simp] def b_is_integer : MS := (sSeq s_is_integer_0 sNil)
omit [TabSet] in
def m_is_integer : MF := mOf 1 1 b_is_integer
omit [TabSet] in
theorem sc_is_integer : FnScope ["value"] ["value"] (defScope (topS 1)) := ⟨rfl, rfl, rfl, by decide +kernel, rfl, by decide +kernel, by decide +kernel⟩
theorem d_is_integer (G : Env K mg) : DefOk P w K mg base "is_integer" 1 (spF mg m_is_integer) :=
  have Sc := sc_is_integer
  def_pure (k := 0) G.f_is_integer Sc (by decide) fun cdv A outer s H E F fa hr =>
  (s_cons (s_ret (e_and (e_isi (T := "int") (hm := G.n_isinstance) (hmT := G.n_int) (hvT := by rfl) (ha := (x_of (e_var (i := 0))))) (e_one (e_not (e_isi (T := "bool") (hm := G.n_isinstance) (hmT := G.n_bool) (hvT := by rfl) (ha := (x_of (e_var (i := 0)))))))))
  s_nil)
/-! is_index -/
omit [TabSet] in
@[simp] def s_is_index_0 : MS := (sRet (fAndV (fCall m_is_integer (aCons (fVar 0) aNil)) (fChain cLe cLt (fC (.int 0)) (fVar 0) (fVar 1))))
/-! is_index -/
omit [TabSet] in
@[simp] def b_is_index : MS := (sSeq s_is_index_0 sNil)
omit [TabSet] in
def m_is_index : MF := mOf 2 2 b_is_index
omit [TabSet] in
theorem sc_is_index : FnScope ["value", "count"] ["value", "count"] (defScope (topS 2)) := ⟨rfl, rfl, rfl, by decide +kernel, rfl, by decide +kernel, by decide +kernel⟩
theorem d_is_index (G : Env K mg) : DefOk P w K mg base "is_index" 2 (spF mg m_is_index) :=
  have Sc := sc_is_index
  def_pure (k := 1) G.f_is_index Sc (by decide) fun cdv A outer s H E F fa hr =>
  (s_cons (s_ret (e_and (e_call ((d_is_integer G).mono (by decide)) hr (a_cons (e_var (i := 0)) a_nil)) (e_one (e_chain ck_le ck_lt e_int (e_var (i := 0)) (e_var (i := 1))))))
  s_nil)
/-! are_indices -/
omit [TabSet] in
@[simp] def s_are_indices_0 : MS := (sRet (fAndV (f1 (uIs "tuple") (fVar 0)) (f1 uAll (fList (lComp (iSeq (fVar 0)) (gN 2) tTrue (fCall m_is_index (aCons (fVar 2) (aCons (fVar 1) aNil))) [2])))))
/-! are_indices -/
omit [TabSet] in
@[simp] def b_are_indices : MS := (sSeq s_are_indices_0 sNil)
omit [TabSet] in
def m_are_indices : MF := mOf 3 2 b_are_indices
omit [TabSet] in
theorem sc_are_indices : FnScope ["value", "count", "item"] ["value", "count"] (defScope (topS 3)) := ⟨rfl, rfl, rfl, by decide +kernel, rfl, by decide +kernel, by decide +kernel⟩
theorem d_are_indices (G : Env K mg) : DefOk P w K mg base "are_indices" 3 (spF mg m_are_indices) :=
  have Sc := sc_are_indices
  def_pure (k := 2) G.f_are_indices Sc (by decide) fun cdv A outer s H E F fa hr =>
  (s_cons (s_ret (e_and (e_isi (T := "tuple") (hm := G.n_isinstance) (hmT := G.n_tuple) (hvT := by rfl) (ha := (x_of (e_var (i := 0))))) (e_one (e_all (hc := rfl) (hm := G.n_all) (ha := (x_f (e_lc' (own := [("item", 2)]) rfl Sc.nd (i_seq (e_var (i := 0))) (blkOk_by (by rfl)) (fun s H C cl fp => (g_name (i := 2) Sc.nd)) (fun s H C cl fp => ts_nil) (fun s H C cl fp => (e_call ((d_is_index G).mono (by decide)) hr (a_cons (e_var (i := 2)) (a_cons (e_var (i := 1)) a_nil)))))))))))
  s_nil)
/-! could_be_bells -/
omit [TabSet] in
@[simp] def s_could_be_bells_0 : MS := (sRet (fAndV (fCall m_is_integer (aCons (fVar 0) aNil)) (fChain cLe cLe (fC (.int 2)) (fVar 0) (fC (.int 6)))))
/-! could_be_bells -/
omit [TabSet] in
@[simp] def b_could_be_bells : MS := (sSeq s_could_be_bells_0 sNil)
omit [TabSet] in
def m_could_be_bells : MF := mOf 1 1 b_could_be_bells
omit [TabSet] in
theorem sc_could_be_bells : FnScope ["value"] ["value"] (defScope (topS 18)) := ⟨rfl, rfl, rfl, by decide +kernel, rfl, by decide +kernel, by decide +kernel⟩
theorem d_could_be_bells (G : Env K mg) : DefOk P w K mg base "could_be_bells" 2 (spF mg m_could_be_bells) :=
  have Sc := sc_could_be_bells
  def_pure (k := 1) G.f_could_be_bells Sc (by decide) fun cdv A outer s H E F fa hr =>
  (s_cons (s_ret (e_and (e_call ((d_is_integer G).mono (by decide)) hr (a_cons (e_var (i := 0)) a_nil)) (e_one (e_chain ck_le ck_le e_int (e_var (i := 0)) e_int))))
  s_nil)
/-! rounds_of -/
omit [TabSet] in
@[simp] def s_rounds_of_0 : MS := (sRet (fTupRg (r1 (fVar 0))))
/-! rounds_of -/
omit [TabSet] in
@[simp] def b_rounds_of : MS := (sSeq s_rounds_of_0 sNil)
omit [TabSet] in
def m_rounds_of : MF := mOf 1 1 b_rounds_of
omit [TabSet] in
theorem sc_rounds_of : FnScope ["bells"] ["bells"] (defScope (topS 19)) := ⟨rfl, rfl, rfl, by decide +kernel, rfl, by decide +kernel, by decide +kernel⟩
theorem d_rounds_of (G : Env K mg) : DefOk P w K mg base "rounds_of" 1 (spF mg m_rounds_of) :=
  have Sc := sc_rounds_of
  def_pure (k := 0) G.f_rounds_of Sc (by decide) fun cdv A outer s H E F fa hr =>
  (s_cons (s_ret (e_tupRg (hc := rfl) (hm := G.n_tuple) (he := (rg_1 (hm := G.n_range) (ha := (e_var (i := 0)))))))
  s_nil)
/-! could_change -/
omit [TabSet] in
@[simp] def s_could_change_1 : MS := (sRet (f1 uAll (fList (lComp (iZip2 (fVar 1) (fSlA (fVar 1) (oInt (pC (.int 1))) oNo)) (gT (gsCons (gN 2) (gsCons (gN 3) gsNil))) tTrue (fCmp cLt (fOp opAdd (fVar 2) (fC (.int 1))) (fVar 3)) [2, 3]))))
omit [TabSet] in
@[simp] def s_could_change_0 : MS := (sIf (fNotT (fB (fCall m_are_indices (aCons (fVar 1) (aCons (fOp opSub (fVar 0) (fC (.int 1))) aNil)))))
  (sSeq (sRet (fC (.bool false)))
  sNil)
  sNil)
/-! could_change -/
omit [TabSet] in
@[simp] def b_could_change : MS := (sSeq s_could_change_0 (sSeq s_could_change_1 sNil))
omit [TabSet] in
def m_could_change : MF := mOf 4 2 b_could_change
omit [TabSet] in
theorem sc_could_change : FnScope ["bells", "value", "low", "high"] ["bells", "value"] (defScope (topS 20)) := ⟨rfl, rfl, rfl, by decide +kernel, rfl, by decide +kernel, by decide +kernel⟩
theorem d_could_change (G : Env K mg) : DefOk P w K mg base "could_change" 4 (spF mg m_could_change) :=
  have Sc := sc_could_change
  def_pure (k := 3) G.f_could_change Sc (by decide) fun cdv A outer s H E F fa hr =>
  (s_cons (s_if (t_not (t_val (e_call ((d_are_indices G).mono (by decide)) hr (a_cons (e_var (i := 1)) (a_cons (e_sub (e_var (i := 0)) e_int) a_nil)))))
  (s_cons (s_ret e_bl)
  s_nil)
  s_nil)
  (s_cons (s_ret (e_all (hc := rfl) (hm := G.n_all) (ha := (x_f (e_lc' (own := [("low", 2), ("high", 3)]) rfl Sc.nd (i_zip (hm := G.n_zip) (ha := (e_var (i := 1))) (hb := (e_slA (e_var (i := 1)) (o_int p_int) o_no))) (blkOk_by (by rfl)) (fun s H C cl fp => (g_tup rfl (gs_cons (g_name (i := 2) Sc.nd) (gs_cons (g_name (i := 3) Sc.nd) gs_nil)) rfl rfl (gsCons_len (gsCons_len gsNil_len)))) (fun s H C cl fp => ts_nil) (fun s H C cl fp => (e_cmp ck_lt (e_add (e_var (i := 2)) e_int) (e_var (i := 3)))))))))
  s_nil))
/-! changed_row -/
omit [TabSet] in
@[simp] def s_changed_row_2 : MS := (sRet (f1 uTup (fPeek 2)))
omit [TabSet] in
def l_changed_row_1 : MS := (sSeq (sAsg (gT (gsCons (gSubO 2 (pVar 3)) (gsCons (gSubO 2 (pAdd (pVar 3) (pC (.int 1)))) gsNil))) (fTup (aCons (fIxX (fPeek 2) (pAdd (pVar 3) (pC (.int 1)))) (aCons (fIxX (fPeek 2) (pVar 3)) aNil))))
  sNil)
omit [TabSet] in
@[simp] def s_changed_row_1 : MS := (sFor (iSeq (fVar 1)) (gN 3)
  l_changed_row_1)
omit [TabSet] in
@[simp] def s_changed_row_0 : MS := (sSetO 2 (l1 uList (fVar 0)))
/-! changed_row -/
omit [TabSet] in
@[simp] def b_changed_row : MS := (sSeq s_changed_row_0 (sSeq s_changed_row_1 (sSeq s_changed_row_2 sNil)))
omit [TabSet] in
def m_changed_row : MF := mOf 4 2 b_changed_row
omit [TabSet] in
theorem sc_changed_row : FnScope ["row", "change", "behind", "place"] ["row", "change"] (defScope (topS 21)) := ⟨rfl, rfl, rfl, by decide +kernel, rfl, by decide +kernel, by decide +kernel⟩
theorem d_changed_row (G : Env K mg) : DefOk P w K mg base "changed_row" 1 (spF mg m_changed_row) :=
  have Sc := sc_changed_row
  def_pure (k := 0) G.f_changed_row Sc (by decide) fun cdv A outer s H E F fa hr =>
  (s_cons (s_setO (i := 2) Sc.nd (f_listOf (hm := G.n_list) (ha := (x_of (e_var (i := 0))))))
  (s_cons (s_for (passes_of rfl) rfl (i_seq (e_var (i := 1))) (g_name (i := 3) Sc.nd)
  (s_cons (s_asgh (e_tup (a_cons (e_ixX (x_peek (i := 2)) (p_addN (p_var (i := 3)) p_int)) (a_cons (e_ixX (x_peek (i := 2)) (p_var (i := 3))) a_nil))) (gh_tup rfl (ghs_cons (gh_sub (i := 2) (p_var (i := 3))) (ghs_cons (gh_sub (i := 2) (p_addN (p_var (i := 3)) p_int)) ghs_nil)) (gsCons_len (gsCons_len gsNil_len))))
  s_nil))
  (s_cons (s_ret (e_tupOf (hm := G.n_tuple) (ha := (x_peek (i := 2)))))
  s_nil)))
/-! joint_row -/
omit [TabSet] in
@[simp] def s_joint_row_0 : MS := (sRet (f1 uTup (fList (lComp (iSeq (fVar 1)) (gN 2) tTrue (fOp ixE (fVar 0) (fVar 2)) [2]))))
/-! joint_row -/
omit [TabSet] in
@[simp] def b_joint_row : MS := (sSeq s_joint_row_0 sNil)
omit [TabSet] in
def m_joint_row : MF := mOf 3 2 b_joint_row
omit [TabSet] in
theorem sc_joint_row : FnScope ["row", "other", "place"] ["row", "other"] (defScope (topS 22)) := ⟨rfl, rfl, rfl, by decide +kernel, rfl, by decide +kernel, by decide +kernel⟩
theorem d_joint_row (G : Env K mg) : DefOk P w K mg base "joint_row" 1 (spF mg m_joint_row) :=
  have Sc := sc_joint_row
  def_pure (k := 0) G.f_joint_row Sc (by decide) fun cdv A outer s H E F fa hr =>
  (s_cons (s_ret (e_tupOf (hm := G.n_tuple) (ha := (x_f (e_lc' (own := [("place", 2)]) rfl Sc.nd (i_seq (e_var (i := 1))) (blkOk_by (by rfl)) (fun s H C cl fp => (g_name (i := 2) Sc.nd)) (fun s H C cl fp => ts_nil) (fun s H C cl fp => (e_ixE hr (e_var (i := 0)) (e_var (i := 2)))))))))
  s_nil)
/-! could_lead -/
omit [TabSet] in
@[simp] def s_could_lead_1 : MS := (sRet (f1 uAll (fList (lComp (iSeq (fVar 1)) (gN 2) tTrue (fCall m_could_change (aCons (fVar 0) (aCons (fVar 2) aNil))) [2]))))
omit [TabSet] in
@[simp] def s_could_lead_0 : MS := (sIf (fOrT (fNotT (fB (f1 (uIs "tuple") (fVar 1)))) (fNotT (fChainT cLe cLe (fC (.int 1)) (f1 uLen (fVar 1)) (fC (.int 24)))))
  (sSeq (sRet (fC (.bool false)))
  sNil)
  sNil)
/-! could_lead -/
omit [TabSet] in
@[simp] def b_could_lead : MS := (sSeq s_could_lead_0 (sSeq s_could_lead_1 sNil))
omit [TabSet] in
def m_could_lead : MF := mOf 3 2 b_could_lead
omit [TabSet] in
theorem sc_could_lead : FnScope ["bells", "value", "change"] ["bells", "value"] (defScope (topS 25)) := ⟨rfl, rfl, rfl, by decide +kernel, rfl, by decide +kernel, by decide +kernel⟩
theorem d_could_lead (G : Env K mg) : DefOk P w K mg base "could_lead" 5 (spF mg m_could_lead) :=
  have Sc := sc_could_lead
  def_pure (k := 4) G.f_could_lead Sc (by decide) fun cdv A outer s H E F fa hr =>
  (s_cons (s_if (w_or (t_not (t_val (e_isi (T := "tuple") (hm := G.n_isinstance) (hmT := G.n_tuple) (hvT := by rfl) (ha := (x_of (e_var (i := 1))))))) (w_or1 (t_not (t_chain ck_le ck_le e_int (e_len (hm := G.n_len) (ha := (x_of (e_var (i := 1))))) (e_glob G.c_MOST_CHANGES))))).pt
  (s_cons (s_ret e_bl)
  s_nil)
  s_nil)
  (s_cons (s_ret (e_all (hc := rfl) (hm := G.n_all) (ha := (x_f (e_lc' (own := [("change", 2)]) rfl Sc.nd (i_seq (e_var (i := 1))) (blkOk_by (by rfl)) (fun s H C cl fp => (g_name (i := 2) Sc.nd)) (fun s H C cl fp => ts_nil) (fun s H C cl fp => (e_call ((d_could_change G).mono (by decide)) hr (a_cons (e_var (i := 0)) (a_cons (e_var (i := 2)) a_nil)))))))))
  s_nil))
/-! rows_behind -/
omit [TabSet] in
@[simp] def s_rows_behind_2 : MS := (sRetO 2)
omit [TabSet] in
def l_rows_behind_1 : MS := (sSeq (sSet 0 (fCall m_changed_row (aCons (fVar 0) (aCons (fVar 3) aNil))))
  (sSeq (sApp 2 (fVar 0))
  sNil))
omit [TabSet] in
@[simp] def s_rows_behind_1 : MS := (sFor (iSeq (fVar 1)) (gN 3)
  l_rows_behind_1)
omit [TabSet] in
@[simp] def s_rows_behind_0 : MS := (sSetO 2 (lLst aNil))
/-! rows_behind -/
omit [TabSet] in
@[simp] def b_rows_behind : MS := (sSeq s_rows_behind_0 (sSeq s_rows_behind_1 (sSeq s_rows_behind_2 sNil)))
omit [TabSet] in
def m_rows_behind : MF := mOf 4 2 b_rows_behind
omit [TabSet] in
theorem sc_rows_behind : FnScope ["row", "lead", "rows", "change"] ["row", "lead"] (defScope (topS 26)) := ⟨rfl, rfl, rfl, by decide +kernel, rfl, by decide +kernel, by decide +kernel⟩
theorem d_rows_behind (G : Env K mg) : DefOk P w K mg base "rows_behind" 2 (spF mg m_rows_behind) :=
  have Sc := sc_rows_behind
  def_pure (k := 1) G.f_rows_behind Sc (by decide) fun cdv A outer s H E F fa hr =>
  (s_cons (s_setO (i := 2) Sc.nd (f_lst a_nil))
  (s_cons (s_for (passes_of rfl) rfl (i_seq (e_var (i := 1))) (g_name (i := 3) Sc.nd)
  (s_cons (s_set (i := 0) Sc.nd (e_call ((d_changed_row G).mono (by decide)) hr (a_cons (e_var (i := 0)) (a_cons (e_var (i := 3)) a_nil))))
  (s_cons (s_app (i := 2) (e_var (i := 0)))
  s_nil)))
  (s_cons (s_retO (i := 2))
  s_nil)))
/-! could_call -/
omit [TabSet] in
@[simp] def s_could_call_1 : MS := (sRet (f1 uAll (fList (lComp (iSeq (fVar 1)) (gN 2) tTrue (fCall m_could_change (aCons (fVar 0) (aCons (fVar 2) aNil))) [2]))))
omit [TabSet] in
@[simp] def s_could_call_0 : MS := (sIf (fOrT (fNotT (fB (f1 (uIs "tuple") (fVar 1)))) (fCmpT cGt (f1 uLen (fVar 1)) (fC (.int 5))))
  (sSeq (sRet (fC (.bool false)))
  sNil)
  sNil)
/-! could_call -/
omit [TabSet] in
@[simp] def b_could_call : MS := (sSeq s_could_call_0 (sSeq s_could_call_1 sNil))
omit [TabSet] in
def m_could_call : MF := mOf 3 2 b_could_call
omit [TabSet] in
theorem sc_could_call : FnScope ["bells", "value", "call"] ["bells", "value"] (defScope (topS 30)) := ⟨rfl, rfl, rfl, by decide +kernel, rfl, by decide +kernel, by decide +kernel⟩
theorem d_could_call (G : Env K mg) : DefOk P w K mg base "could_call" 5 (spF mg m_could_call) :=
  have Sc := sc_could_call
  def_pure (k := 4) G.f_could_call Sc (by decide) fun cdv A outer s H E F fa hr =>
  (s_cons (s_if (w_or (t_not (t_val (e_isi (T := "tuple") (hm := G.n_isinstance) (hmT := G.n_tuple) (hvT := by rfl) (ha := (x_of (e_var (i := 1))))))) (w_or1 (t_cmp ck_gt (e_len (hm := G.n_len) (ha := (x_of (e_var (i := 1))))) (e_glob G.c_MOST_CALLS)))).pt
  (s_cons (s_ret e_bl)
  s_nil)
  s_nil)
  (s_cons (s_ret (e_all (hc := rfl) (hm := G.n_all) (ha := (x_f (e_lc' (own := [("call", 2)]) rfl Sc.nd (i_seq (e_var (i := 1))) (blkOk_by (by rfl)) (fun s H C cl fp => (g_name (i := 2) Sc.nd)) (fun s H C cl fp => ts_nil) (fun s H C cl fp => (e_call ((d_could_change G).mono (by decide)) hr (a_cons (e_var (i := 0)) (a_cons (e_var (i := 2)) a_nil)))))))))
  s_nil))
/-! could_compose -/
omit [TabSet] in
@[simp] def s_could_compose_0 : MS := (sRet (fAndV (fCall m_are_indices (aCons (fVar 1) (aCons (fOp opAdd (f1 uLen (fVar 0)) (fC (.int 1))) aNil))) (fCmp cLe (f1 uLen (fVar 1)) (fC (.int 40)))))
/-! could_compose -/
omit [TabSet] in
@[simp] def b_could_compose : MS := (sSeq s_could_compose_0 sNil)
omit [TabSet] in
def m_could_compose : MF := mOf 2 2 b_could_compose
omit [TabSet] in
theorem sc_could_compose : FnScope ["calls", "value"] ["calls", "value"] (defScope (topS 31)) := ⟨rfl, rfl, rfl, by decide +kernel, rfl, by decide +kernel, by decide +kernel⟩
theorem d_could_compose (G : Env K mg) : DefOk P w K mg base "could_compose" 4 (spF mg m_could_compose) :=
  have Sc := sc_could_compose
  def_pure (k := 3) G.f_could_compose Sc (by decide) fun cdv A outer s H E F fa hr =>
  (s_cons (s_ret (e_and (e_call ((d_are_indices G).mono (by decide)) hr (a_cons (e_var (i := 1)) (a_cons (e_add (e_len (hm := G.n_len) (ha := (x_of (e_var (i := 0))))) e_int) a_nil))) (e_one (e_cmp ck_le (e_len (hm := G.n_len) (ha := (x_of (e_var (i := 1))))) (e_glob G.c_MOST_LEADS)))))
  s_nil)
/-! method_ways -/
omit [TabSet] in
@[simp] def s_method_ways_0 : MS := (sRet (fOp opAdd (fTup (aCons (fVar 0) aNil)) (f1 uTup (fList (lComp (iSeq (fVar 1)) (gN 2) tTrue (fOp opAdd (fSlA (fVar 0) oNo (oInt (pNeg (pC (.int 1))))) (fTup (aCons (fVar 2) aNil))) [2])))))
/-! method_ways -/
omit [TabSet] in
@[simp] def b_method_ways : MS := (sSeq s_method_ways_0 sNil)
omit [TabSet] in
def m_method_ways : MF := mOf 3 2 b_method_ways
omit [TabSet] in
theorem sc_method_ways : FnScope ["lead", "calls", "call"] ["lead", "calls"] (defScope (topS 32)) := ⟨rfl, rfl, rfl, by decide +kernel, rfl, by decide +kernel, by decide +kernel⟩
theorem d_method_ways (G : Env K mg) : DefOk P w K mg base "method_ways" 1 (spF mg m_method_ways) :=
  have Sc := sc_method_ways
  def_pure (k := 0) G.f_method_ways Sc (by decide) fun cdv A outer s H E F fa hr =>
  (s_cons (s_ret (e_add (e_tup (a_cons (e_var (i := 0)) a_nil)) (e_tupOf (hm := G.n_tuple) (ha := (x_f (e_lc' (own := [("call", 2)]) rfl Sc.nd (i_seq (e_var (i := 1))) (blkOk_by (by rfl)) (fun s H C cl fp => (g_name (i := 2) Sc.nd)) (fun s H C cl fp => ts_nil) (fun s H C cl fp => (e_add (e_slA (e_var (i := 0)) o_no (o_int (p_neg p_int))) (e_tup (a_cons (e_var (i := 2)) a_nil))))))))))
  s_nil)
/-! rows_composed -/
omit [TabSet] in
@[simp] def s_rows_composed_4 : MS := (sRetO 6)
omit [TabSet] in
def t_rows_composed_4 : MS := (sSeq s_rows_composed_4 sNil)
omit [TabSet] in
def l_rows_composed_1 : MS := (sSeq (sExt 6 (fCall m_rows_behind (aCons (fVar 5) (aCons (fOp ixE (fVar 4) (fVar 7)) aNil))))
  (sSeq (sSet 5 (fIxX (fPeek 6) (pNeg (pC (.int 1)))))
  sNil))
omit [TabSet] in
@[simp] def s_rows_composed_3 : MS := (sFor (iSeq (fVar 3)) (gN 7)
  l_rows_composed_1)
omit [TabSet] in
def t_rows_composed_3 : MS := (sSeq s_rows_composed_3 t_rows_composed_4)
omit [TabSet] in
@[simp] def s_rows_composed_2 : MS := (sSetO 6 (lLst aNil))
omit [TabSet] in
def t_rows_composed_2 : MS := (sSeq s_rows_composed_2 t_rows_composed_3)
omit [TabSet] in
@[simp] def s_rows_composed_1 : MS := (sSet 5 (fCall m_rounds_of (aCons (fVar 0) aNil)))
omit [TabSet] in
def t_rows_composed_1 : MS := (sSeq s_rows_composed_1 t_rows_composed_2)
omit [TabSet] in
@[simp] def s_rows_composed_0 : MS := (sSet 4 (fCall m_method_ways (aCons (fVar 1) (aCons (fVar 2) aNil))))
/-! rows_composed -/
omit [TabSet] in
@[simp] def b_rows_composed : MS := (sSeq s_rows_composed_0 t_rows_composed_1)
omit [TabSet] in
def m_rows_composed : MF := mOf 8 4 b_rows_composed
omit [TabSet] in
theorem sc_rows_composed : FnScope ["bells", "lead", "calls", "composition", "ways", "row", "rows", "way"] ["bells", "lead", "calls", "composition"] (defScope (topS 33)) := ⟨rfl, rfl, rfl, by decide +kernel, rfl, by decide +kernel, by decide +kernel⟩
theorem d_rows_composed (G : Env K mg) : DefOk P w K mg base "rows_composed" 3 (spF mg m_rows_composed) :=
  have Sc := sc_rows_composed
  def_pure (k := 2) G.f_rows_composed Sc (by decide) fun cdv A outer s H E F fa hr =>
  (s_cons (s_set (i := 4) Sc.nd (e_call ((d_method_ways G).mono (by decide)) hr (a_cons (e_var (i := 1)) (a_cons (e_var (i := 2)) a_nil))))
  (s_cons (s_set (i := 5) Sc.nd (e_call ((d_rounds_of G).mono (by decide)) hr (a_cons (e_var (i := 0)) a_nil)))
  (s_cons (s_setO (i := 6) Sc.nd (f_lst a_nil))
  (s_cons (s_for (passes_of rfl) rfl (i_seq (e_var (i := 3))) (g_name (i := 7) Sc.nd)
  (s_cons (s_ext (i := 6) (e_call ((d_rows_behind G).mono (by decide)) hr (a_cons (e_var (i := 5)) (a_cons (e_ixE hr (e_var (i := 4)) (e_var (i := 7))) a_nil))))
  (s_cons (s_set (i := 5) Sc.nd (e_ixX (x_peek (i := 6)) (p_neg p_int)))
  s_nil)))
  (s_cons (s_retO (i := 6))
  s_nil)))))
/-! acting_rows -/
omit [TabSet] in
@[simp] def s_acting_rows_0 : MS := (sRet (fList (lComp (iSeq (fVar 1)) (gN 2) tTrue (fOp ixE (fCall m_rows_behind (aCons (fCall m_rounds_of (aCons (fVar 0) aNil)) (aCons (fVar 2) aNil))) (fNeg (fC (.int 1)))) [2])))
/-! acting_rows -/
omit [TabSet] in
@[simp] def b_acting_rows : MS := (sSeq s_acting_rows_0 sNil)
omit [TabSet] in
def m_acting_rows : MF := mOf 3 2 b_acting_rows
omit [TabSet] in
theorem sc_acting_rows : FnScope ["bells", "ways", "lead"] ["bells", "ways"] (defScope (topS 35)) := ⟨rfl, rfl, rfl, by decide +kernel, rfl, by decide +kernel, by decide +kernel⟩
theorem d_acting_rows (G : Env K mg) : DefOk P w K mg base "acting_rows" 3 (spF mg m_acting_rows) :=
  have Sc := sc_acting_rows
  def_pure (k := 2) G.f_acting_rows Sc (by decide) fun cdv A outer s H E F fa hr =>
  (s_cons (s_ret (se_f (e_lc' (own := [("lead", 2)]) rfl Sc.nd (i_seq (e_var (i := 1))) (blkOk_by (by rfl)) (fun s H C cl fp => (g_name (i := 2) Sc.nd)) (fun s H C cl fp => ts_nil) (fun s H C cl fp => (e_ixE hr (e_call ((d_rows_behind G).mono (by decide)) hr (a_cons (e_call ((d_rounds_of G).mono (by decide)) hr (a_cons (e_var (i := 0)) a_nil)) (a_cons (e_var (i := 2)) a_nil))) (e_neg e_int))))))
  s_nil)
/-! course_heads -/
omit [TabSet] in
@[simp] def s_course_heads_3 : MS := (sRetO 4)
omit [TabSet] in
def l_course_heads_1 : MS := (sSeq (sApp 4 (fCall m_joint_row (aCons (fIxX (fPeek 4) (pNeg (pC (.int 1)))) (aCons (fOp ixE (fVar 3) (fVar 5)) aNil))))
  sNil)
omit [TabSet] in
@[simp] def s_course_heads_2 : MS := (sFor (iSeq (fVar 2)) (gN 5)
  l_course_heads_1)
omit [TabSet] in
@[simp] def s_course_heads_1 : MS := (sSetO 4 (lLst (aCons (fCall m_rounds_of (aCons (fVar 0) aNil)) aNil)))
omit [TabSet] in
@[simp] def s_course_heads_0 : MS := (sSet 3 (fCall m_acting_rows (aCons (fVar 0) (aCons (fVar 1) aNil))))
/-! course_heads -/
omit [TabSet] in
@[simp] def b_course_heads : MS := (sSeq s_course_heads_0 (sSeq s_course_heads_1 (sSeq s_course_heads_2 (sSeq s_course_heads_3 sNil))))
omit [TabSet] in
def m_course_heads : MF := mOf 6 3 b_course_heads
omit [TabSet] in
theorem sc_course_heads : FnScope ["bells", "ways", "course", "steps", "heads", "way"] ["bells", "ways", "course"] (defScope (topS 37)) := ⟨rfl, rfl, rfl, by decide +kernel, rfl, by decide +kernel, by decide +kernel⟩
theorem d_course_heads (G : Env K mg) : DefOk P w K mg base "course_heads" 4 (spF mg m_course_heads) :=
  have Sc := sc_course_heads
  def_pure (k := 3) G.f_course_heads Sc (by decide) fun cdv A outer s H E F fa hr =>
  (s_cons (s_set (i := 3) Sc.nd (e_call ((d_acting_rows G).mono (by decide)) hr (a_cons (e_var (i := 0)) (a_cons (e_var (i := 1)) a_nil))))
  (s_cons (s_setO (i := 4) Sc.nd (f_lst (a_cons (e_call ((d_rounds_of G).mono (by decide)) hr (a_cons (e_var (i := 0)) a_nil)) a_nil)))
  (s_cons (s_for (passes_of rfl) rfl (i_seq (e_var (i := 2))) (g_name (i := 5) Sc.nd)
  (s_cons (s_app (i := 4) (e_call ((d_joint_row G).mono (by decide)) hr (a_cons (e_ixX (x_peek (i := 4)) (p_neg p_int)) (a_cons (e_ixE hr (e_var (i := 3)) (e_var (i := 5))) a_nil))))
  s_nil))
  (s_cons (s_retO (i := 4))
  s_nil))))
/-! check_bell -/
omit [TabSet] in
@[simp] def s_check_bell_0 : MS := (sIf (fNotT (fB (fCall m_is_index (aCons (fVar 1) (aCons (fVar 0) aNil)))))
  (sSeq (sRaise "InvalidBell")
  sNil)
  sNil)
/-! check_bell -/
omit [TabSet] in
@[simp] def b_check_bell : MS := (sSeq s_check_bell_0 sNil)
omit [TabSet] in
def m_check_bell : MF := mOf 2 2 b_check_bell
omit [TabSet] in
theorem sc_check_bell : FnScope ["bells", "bell"] ["bells", "bell"] (defScope (topS 39)) := ⟨rfl, rfl, rfl, by decide +kernel, rfl, by decide +kernel, by decide +kernel⟩
theorem d_check_bell (G : Env K mg) : DefOk P w K mg base "check_bell" 3 (spF mg m_check_bell) :=
  have Sc := sc_check_bell
  def_pure (k := 2) G.f_check_bell Sc (by decide) fun cdv A outer s H E F fa hr =>
  (s_cons (s_if (t_not (t_val (e_call ((d_is_index G).mono (by decide)) hr (a_cons (e_var (i := 1)) (a_cons (e_var (i := 0)) a_nil)))))
  (s_cons (s_raise rfl (takes_of rfl rfl rfl rfl) G.x_InvalidBell)
  s_nil)
  s_nil)
  s_nil)
/-! is_tour -/
omit [TabSet] in
@[simp] def s_is_tour_3 : MS := (sRet (fCall m_could_compose (aCons (fVar 3) (aCons (fVar 4) aNil))))
omit [TabSet] in
@[simp] def s_is_tour_2 : MS := (sIf (fOrT (fNotT (fB (fCall m_could_be_bells (aCons (fVar 1) aNil)))) (fOrT (fNotT (fB (fCall m_could_lead (aCons (fVar 1) (aCons (fVar 2) aNil))))) (fNotT (fB (fCall m_could_call (aCons (fVar 1) (aCons (fVar 3) aNil)))))))
  (sSeq (sRet (fC (.bool false)))
  sNil)
  sNil)
omit [TabSet] in
@[simp] def s_is_tour_1 : MS := (sAsg (gT (gsCons (gN 1) (gsCons (gN 2) (gsCons (gN 3) (gsCons (gN 4) gsNil))))) (fVar 0))
omit [TabSet] in
@[simp] def s_is_tour_0 : MS := (sIf (fOrT (fNotT (fB (f1 (uIs "tuple") (fVar 0)))) (fCmpT cNe (f1 uLen (fVar 0)) (fC (.int 4))))
  (sSeq (sRet (fC (.bool false)))
  sNil)
  sNil)
/-! is_tour -/
omit [TabSet] in
@[simp] def b_is_tour : MS := (sSeq s_is_tour_0 (sSeq s_is_tour_1 (sSeq s_is_tour_2 (sSeq s_is_tour_3 sNil))))
omit [TabSet] in
def m_is_tour : MF := mOf 5 1 b_is_tour
omit [TabSet] in
theorem sc_is_tour : FnScope ["value", "bells", "lead", "calls", "composition"] ["value"] (defScope (topS 45)) := ⟨rfl, rfl, rfl, by decide +kernel, rfl, by decide +kernel, by decide +kernel⟩
theorem d_is_tour (G : Env K mg) : DefOk P w K mg base "is_tour" 6 (spF mg m_is_tour) :=
  have Sc := sc_is_tour
  def_pure (k := 5) G.f_is_tour Sc (by decide) fun cdv A outer s H E F fa hr =>
  (s_cons (s_if (w_or (t_not (t_val (e_isi (T := "tuple") (hm := G.n_isinstance) (hmT := G.n_tuple) (hvT := by rfl) (ha := (x_of (e_var (i := 0))))))) (w_or1 (t_cmp (ck_ne hr) (e_len (hm := G.n_len) (ha := (x_of (e_var (i := 0))))) e_int))).pt
  (s_cons (s_ret e_bl)
  s_nil)
  s_nil)
  (s_cons (s_asg (e_var (i := 0)) (g_tup rfl (gs_cons (g_name (i := 1) Sc.nd) (gs_cons (g_name (i := 2) Sc.nd) (gs_cons (g_name (i := 3) Sc.nd) (gs_cons (g_name (i := 4) Sc.nd) gs_nil)))) rfl rfl (gsCons_len (gsCons_len (gsCons_len (gsCons_len gsNil_len))))))
  (s_cons (s_if (w_or (t_not (t_val (e_call ((d_could_be_bells G).mono (by decide)) hr (a_cons (e_var (i := 1)) a_nil)))) (w_or (t_not (t_val (e_call ((d_could_lead G).mono (by decide)) hr (a_cons (e_var (i := 1)) (a_cons (e_var (i := 2)) a_nil))))) (w_or1 (t_not (t_val (e_call ((d_could_call G).mono (by decide)) hr (a_cons (e_var (i := 1)) (a_cons (e_var (i := 3)) a_nil)))))))).pt
  (s_cons (s_ret e_bl)
  s_nil)
  s_nil)
  (s_cons (s_ret (e_call ((d_could_compose G).mono (by decide)) hr (a_cons (e_var (i := 3)) (a_cons (e_var (i := 4)) a_nil))))
  s_nil))))
/-! check_tour -/
omit [TabSet] in
@[simp] def s_check_tour_0 : MS := (sIf (fNotT (fB (fCall m_is_tour (aCons (fVar 0) aNil))))
  (sSeq (sRaise "InvalidTour")
  sNil)
  sNil)
/-! check_tour -/
omit [TabSet] in
@[simp] def b_check_tour : MS := (sSeq s_check_tour_0 sNil)
omit [TabSet] in
def m_check_tour : MF := mOf 1 1 b_check_tour
omit [TabSet] in
theorem sc_check_tour : FnScope ["tour"] ["tour"] (defScope (topS 41)) := ⟨rfl, rfl, rfl, by decide +kernel, rfl, by decide +kernel, by decide +kernel⟩
theorem d_check_tour (G : Env K mg) : DefOk P w K mg base "check_tour" 7 (spF mg m_check_tour) :=
  have Sc := sc_check_tour
  def_pure (k := 6) G.f_check_tour Sc (by decide) fun cdv A outer s H E F fa hr =>
  (s_cons (s_if (t_not (t_val (e_call ((d_is_tour G).mono (by decide)) hr (a_cons (e_var (i := 0)) a_nil))))
  (s_cons (s_raise rfl (takes_of rfl rfl rfl rfl) G.x_InvalidTour)
  s_nil)
  s_nil)
  s_nil)
/-! check_tour_and_bell -/
omit [TabSet] in
@[simp] def s_check_tour_and_bell_1 : MS := (sCall m_check_bell (aCons (fOp ixE (fVar 0) (fC (.int 0))) (aCons (fVar 1) aNil)))
omit [TabSet] in
@[simp] def s_check_tour_and_bell_0 : MS := (sCall m_check_tour (aCons (fVar 0) aNil))
/-! check_tour_and_bell -/
omit [TabSet] in
@[simp] def b_check_tour_and_bell : MS := (sSeq s_check_tour_and_bell_0 (sSeq s_check_tour_and_bell_1 sNil))
omit [TabSet] in
def m_check_tour_and_bell : MF := mOf 2 2 b_check_tour_and_bell
omit [TabSet] in
theorem sc_check_tour_and_bell : FnScope ["tour", "bell"] ["tour", "bell"] (defScope (topS 42)) := ⟨rfl, rfl, rfl, by decide +kernel, rfl, by decide +kernel, by decide +kernel⟩
theorem d_check_tour_and_bell (G : Env K mg) : DefOk P w K mg base "check_tour_and_bell" 8 (spF mg m_check_tour_and_bell) :=
  have Sc := sc_check_tour_and_bell
  def_pure (k := 7) G.f_check_tour_and_bell Sc (by decide) fun cdv A outer s H E F fa hr =>
  (s_cons (s_call (takes_of rfl rfl rfl rfl) ((d_check_tour G).mono (by decide)) hr (a_cons (e_var (i := 0)) a_nil))
  (s_cons (s_call (takes_of rfl rfl rfl rfl) ((d_check_bell G).mono (by decide)) hr (a_cons (e_ixE hr (e_var (i := 0)) e_int) (a_cons (e_var (i := 1)) a_nil)))
  s_nil))
/-! heads_by -/
omit [TabSet] in
@[simp] def s_heads_by_1 : MS := (sRet (fCall m_course_heads (aCons (fVar 1) (aCons (fCall m_method_ways (aCons (fVar 2) (aCons (fVar 3) aNil))) (aCons (fVar 4) aNil)))))
omit [TabSet] in
@[simp] def s_heads_by_0 : MS := (sAsg (gT (gsCons (gN 1) (gsCons (gN 2) (gsCons (gN 3) (gsCons (gN 4) gsNil))))) (fVar 0))
/-! heads_by -/
omit [TabSet] in
@[simp] def b_heads_by : MS := (sSeq s_heads_by_0 (sSeq s_heads_by_1 sNil))
omit [TabSet] in
def m_heads_by : MF := mOf 5 1 b_heads_by
omit [TabSet] in
theorem sc_heads_by : FnScope ["tour", "bells", "lead", "calls", "composition"] ["tour"] (defScope (topS 43)) := ⟨rfl, rfl, rfl, by decide +kernel, rfl, by decide +kernel, by decide +kernel⟩
theorem d_heads_by (G : Env K mg) : DefOk P w K mg base "heads_by" 5 (spF mg m_heads_by) :=
  have Sc := sc_heads_by
  def_pure (k := 4) G.f_heads_by Sc (by decide) fun cdv A outer s H E F fa hr =>
  (s_cons (s_asg (e_var (i := 0)) (g_tup rfl (gs_cons (g_name (i := 1) Sc.nd) (gs_cons (g_name (i := 2) Sc.nd) (gs_cons (g_name (i := 3) Sc.nd) (gs_cons (g_name (i := 4) Sc.nd) gs_nil)))) rfl rfl (gsCons_len (gsCons_len (gsCons_len (gsCons_len gsNil_len))))))
  (s_cons (s_ret (e_call ((d_course_heads G).mono (by decide)) hr (a_cons (e_var (i := 1)) (a_cons (e_call ((d_method_ways G).mono (by decide)) hr (a_cons (e_var (i := 2)) (a_cons (e_var (i := 3)) a_nil))) (a_cons (e_var (i := 4)) a_nil)))))
  s_nil))
/-! tour_rows -/
omit [TabSet] in
@[simp] def s_tour_rows_1 : MS := (sRet (fOp opAdd (fList (lLst (aCons (fCall m_rounds_of (aCons (fVar 1) aNil)) aNil))) (fCall m_rows_composed (aCons (fVar 1) (aCons (fVar 2) (aCons (fVar 3) (aCons (fVar 4) aNil)))))))
omit [TabSet] in
@[simp] def s_tour_rows_0 : MS := (sAsg (gT (gsCons (gN 1) (gsCons (gN 2) (gsCons (gN 3) (gsCons (gN 4) gsNil))))) (fVar 0))
/-! tour_rows -/
omit [TabSet] in
@[simp] def b_tour_rows : MS := (sSeq s_tour_rows_0 (sSeq s_tour_rows_1 sNil))
omit [TabSet] in
def m_tour_rows : MF := mOf 5 1 b_tour_rows
omit [TabSet] in
theorem sc_tour_rows : FnScope ["tour", "bells", "lead", "calls", "composition"] ["tour"] (defScope (topS 44)) := ⟨rfl, rfl, rfl, by decide +kernel, rfl, by decide +kernel, by decide +kernel⟩
theorem d_tour_rows (G : Env K mg) : DefOk P w K mg base "tour_rows" 4 (spF mg m_tour_rows) :=
  have Sc := sc_tour_rows
  def_pure (k := 3) G.f_tour_rows Sc (by decide) fun cdv A outer s H E F fa hr =>
  (s_cons (s_asg (e_var (i := 0)) (g_tup rfl (gs_cons (g_name (i := 1) Sc.nd) (gs_cons (g_name (i := 2) Sc.nd) (gs_cons (g_name (i := 3) Sc.nd) (gs_cons (g_name (i := 4) Sc.nd) gs_nil)))) rfl rfl (gsCons_len (gsCons_len (gsCons_len (gsCons_len gsNil_len))))))
  (s_cons (s_ret (e_add (se_f (f_lst (a_cons (e_call ((d_rounds_of G).mono (by decide)) hr (a_cons (e_var (i := 1)) a_nil)) a_nil))) (e_call ((d_rows_composed G).mono (by decide)) hr (a_cons (e_var (i := 1)) (a_cons (e_var (i := 2)) (a_cons (e_var (i := 3)) (a_cons (e_var (i := 4)) a_nil)))))))
  s_nil))
/-! tour_heads -/
omit [TabSet] in
@[simp] def s_tour_heads_1 : MS := (sRet (fCall m_heads_by (aCons (fVar 0) aNil)))
omit [TabSet] in
@[simp] def s_tour_heads_0 : MS := (sCall m_check_tour (aCons (fVar 0) aNil))
/-! tour_heads -/
omit [TabSet] in
@[simp] def b_tour_heads : MS := (sSeq s_tour_heads_0 (sSeq s_tour_heads_1 sNil))
omit [TabSet] in
def m_tour_heads : MF := mOf 1 1 b_tour_heads
omit [TabSet] in
theorem sc_tour_heads : FnScope ["tour"] ["tour"] (defScope (topS 46)) := ⟨rfl, rfl, rfl, by decide +kernel, rfl, by decide +kernel, by decide +kernel⟩
theorem d_tour_heads (G : Env K mg) : DefOk P w K mg base "tour_heads" 8 (spF mg m_tour_heads) :=
  have Sc := sc_tour_heads
  def_pure (k := 7) G.f_tour_heads Sc (by decide) fun cdv A outer s H E F fa hr =>
  (s_cons (s_call (takes_of rfl rfl rfl rfl) ((d_check_tour G).mono (by decide)) hr (a_cons (e_var (i := 0)) a_nil))
  (s_cons (s_ret (e_call ((d_heads_by G).mono (by decide)) hr (a_cons (e_var (i := 0)) a_nil)))
  s_nil))
/-! tour_path -/
omit [TabSet] in
@[simp] def s_tour_path_1 : MS := (sRet (fList (lComp (iSeq (fCall m_tour_rows (aCons (fVar 0) aNil))) (gN 2) tTrue (fIndexA (fVar 2) (fVar 1)) [2])))
omit [TabSet] in
@[simp] def s_tour_path_0 : MS := (sCall m_check_tour_and_bell (aCons (fVar 0) (aCons (fVar 1) aNil)))
/-! tour_path -/
omit [TabSet] in
@[simp] def b_tour_path : MS := (sSeq s_tour_path_0 (sSeq s_tour_path_1 sNil))
omit [TabSet] in
def m_tour_path : MF := mOf 3 2 b_tour_path
omit [TabSet] in
theorem sc_tour_path : FnScope ["tour", "bell", "row"] ["tour", "bell"] (defScope (topS 47)) := ⟨rfl, rfl, rfl, by decide +kernel, rfl, by decide +kernel, by decide +kernel⟩
theorem d_tour_path (G : Env K mg) : DefOk P w K mg base "tour_path" 9 (spF mg m_tour_path) :=
  have Sc := sc_tour_path
  def_pure (k := 8) G.f_tour_path Sc (by decide) fun cdv A outer s H E F fa hr =>
  (s_cons (s_call (takes_of rfl rfl rfl rfl) ((d_check_tour_and_bell G).mono (by decide)) hr (a_cons (e_var (i := 0)) (a_cons (e_var (i := 1)) a_nil)))
  (s_cons (s_ret (se_f (e_lc' (own := [("row", 2)]) rfl Sc.nd (i_seq (e_call ((d_tour_rows G).mono (by decide)) hr (a_cons (e_var (i := 0)) a_nil))) (blkOk_by (by rfl)) (fun s H C cl fp => (g_name (i := 2) Sc.nd)) (fun s H C cl fp => ts_nil) (fun s H C cl fp => (e_indexA hr (e_var (i := 2)) (e_var (i := 1)))))))
  s_nil))
/-! _law_cup -/
/-! _law_cup -/
omit [TabSet] in
@[simp] def b_law_cup : MA := (oSeq (sSet 1 (f1 uAbs (fOp ixE (fOp opAdd (fList (lScr 0)) (fList (lLst (aCons (fC (.int 0)) aNil)))) (fC (.int 0)))))
  (lLst (aCons (fIf (fCmpT cGe (fVar 1) (fOp opPow (fC (.int 10)) (fC (.int 18)))) (fOp opDiv (fVar 1) (fC (.int 29))) (fC (.int 0))) (aCons (fOp opAdd (fOp opMod (f1 uInt (fOp opAdd (fOp opMul (fVar 1) (fC (.int 229))) (fC (.int 1709)))) (fC (.int 2077503719))) (fC (.int 109))) aNil))))
omit [TabSet] in
def m_law_cup : MO := mOfO 2 b_law_cup
omit [TabSet] in
theorem sc_law_cup : FnScope ["_law_script", "_law_cell"] ["_law_script"] (defScope (topS 49)) := ⟨rfl, rfl, rfl, by decide +kernel, rfl, by decide +kernel, by decide +kernel⟩
theorem d_law_cup (G : Env K mg) : DefOk P w K mg base "_law_cup" 1 (spO K m_law_cup) :=
  have Sc := sc_law_cup
  def_made (k := 0) G.f_law_cup Sc (by decide) fun cdv A outer s H E F fa hr =>
  (o_cons (s_set (i := 1) Sc.nd (e_abs (hm := G.n_abs) (ha := (x_of (e_ixE hr (e_add (se_f (f_listScr (i := 0) (hm := G.n_list))) (se_f (f_lst (a_cons e_int a_nil)))) e_int)))))
  (o_ret (f_lst (a_cons (e_if (t_cmp ck_ge (e_var (i := 1)) (e_pow e_int e_int)) (e_fdiv (e_var (i := 1)) e_int) e_int) (a_cons (e_add (e_mod (e_intOf (hm := G.n_int) (ha := (x_of (e_add (e_mul (e_var (i := 1)) e_int) e_int)))) e_int) e_int) a_nil)))))
/-! _law_roll -/
omit [TabSet] in
@[simp] def s_law_roll_3 : MS := (sRet (fOp opMod (f1 uInt (fOp opDiv (fVar 2) (fC (.int 751)))) (fVar 1)))
omit [TabSet] in
@[simp] def s_law_roll_2 : MS := (sSet 2 (fOp opMod (f1 uInt (fOp opMul (fIxX (fPeek 0) (pC (.int 1))) (fOp opAdd (fIxX (fPeek 0) (pC (.int 1))) (fC (.int 179))))) (fC (.int 2147483587))))
omit [TabSet] in
@[simp] def s_law_roll_1 : MS := (sAsg (gSubO 0 (pC (.int 1))) (fOp opMod (f1 uInt (fOp opAdd (fOp opMul (fIxX (fPeek 0) (pC (.int 1))) (fC (.int 30911))) (fC (.int 7901)))) (fC (.int 2147483423))))
omit [TabSet] in
@[simp] def s_law_roll_0 : MS := (sIf (fCmpT cGt (fIxX (fPeek 0) (pC (.int 0))) (fC (.int 0)))
  (sSeq (sSet 3 (fOp opMod (f1 uInt (fIxX (fPeek 0) (pC (.int 0)))) (fVar 1)))
  (sSeq (sAsg (gSubO 0 (pC (.int 0))) (fOp opDiv (fIxX (fPeek 0) (pC (.int 0))) (fVar 1)))
  (sSeq (sRet (fVar 3))
  sNil)))
  sNil)
/-! _law_roll -/
omit [TabSet] in
@[simp] def b_law_roll : MS := (sSeq s_law_roll_0 (sSeq s_law_roll_1 (sSeq s_law_roll_2 (sSeq s_law_roll_3 sNil))))
omit [TabSet] in
def m_law_roll : MC := mOfC 4 2 b_law_roll
omit [TabSet] in
theorem sc_law_roll : FnScope ["_law_cup_here", "_law_many", "_law_deep", "_law_found"] ["_law_cup_here", "_law_many"] (defScope (topS 50)) := ⟨rfl, rfl, rfl, by decide +kernel, rfl, by decide +kernel, by decide +kernel⟩
theorem d_law_roll (G : Env K mg) : DefOk P w K mg base "_law_roll" 1 (spC m_law_roll) :=
  have Sc := sc_law_roll
  def_cup (k := 0) G.f_law_roll Sc (by decide) fun cdv A outer s H E F fa hr =>
  (s_cons (s_if (t_cmp ck_gt (e_ixX (x_peek (i := 0)) p_int) e_int)
  (s_cons (s_set (i := 3) Sc.nd (e_mod (e_intOf (hm := G.n_int) (ha := (x_of (e_ixX (x_peek (i := 0)) p_int)))) (e_var (i := 1))))
  (s_cons (s_asgh (e_fdiv (e_ixX (x_peek (i := 0)) p_int) (e_var (i := 1))) (gh_sub (i := 0) p_int))
  (s_cons (s_ret (e_var (i := 3)))
  s_nil)))
  s_nil)
  (s_cons (s_asgh (e_mod (e_intOf (hm := G.n_int) (ha := (x_of (e_add (e_mul (e_ixX (x_peek (i := 0)) p_int) e_int) e_int)))) e_int) (gh_sub (i := 0) p_int))
  (s_cons (s_set (i := 2) Sc.nd (e_mod (e_intOf (hm := G.n_int) (ha := (x_of (e_mul (e_ixX (x_peek (i := 0)) p_int) (e_add (e_ixX (x_peek (i := 0)) p_int) e_int))))) e_int))
  (s_cons (s_ret (e_mod (e_intOf (hm := G.n_int) (ha := (x_of (e_fdiv (e_var (i := 2)) e_int)))) (e_var (i := 1))))
  s_nil))))
/-! _law_some -/
omit [TabSet] in
@[simp] def s_law_some_0 : MS := (sRet (fOp ixE (fVar 1) (fCallC 0 m_law_roll (aCons (f1 uLen (fVar 1)) aNil))))
/-! _law_some -/
omit [TabSet] in
@[simp] def b_law_some : MS := (sSeq s_law_some_0 sNil)
omit [TabSet] in
def m_law_some : MC := mOfC 2 2 b_law_some
omit [TabSet] in
theorem sc_law_some : FnScope ["_law_cup_here", "_law_things"] ["_law_cup_here", "_law_things"] (defScope (topS 51)) := ⟨rfl, rfl, rfl, by decide +kernel, rfl, by decide +kernel, by decide +kernel⟩
theorem d_law_some (G : Env K mg) : DefOk P w K mg base "_law_some" 2 (spC m_law_some) :=
  have Sc := sc_law_some
  def_cup (k := 1) G.f_law_some Sc (by decide) fun cdv A outer s H E F fa hr =>
  (s_cons (s_ret (e_ixE hr (e_var (i := 1)) (e_callC (i := 0) ((d_law_roll G).mono (by decide)) hr (a_cons (e_len (hm := G.n_len) (ha := (x_of (e_var (i := 1))))) a_nil))))
  s_nil)
/-! _law_behind -/
omit [TabSet] in
@[simp] def s_law_behind_2 : MS := (sRet (f1 uTup (fPeek 2)))
omit [TabSet] in
def l_law_behind_1 : MS := (sSeq (sAsg (gT (gsCons (gSubO 2 (pVar 3)) (gsCons (gSubO 2 (pAdd (pVar 3) (pC (.int 1)))) gsNil))) (fTup (aCons (fOp ixE (fVar 0) (fOp opAdd (fVar 3) (fC (.int 1)))) (aCons (fOp ixE (fVar 0) (fVar 3)) aNil))))
  sNil)
omit [TabSet] in
@[simp] def s_law_behind_1 : MS := (sFor (iSeq (fVar 1)) (gN 3)
  l_law_behind_1)
omit [TabSet] in
@[simp] def s_law_behind_0 : MS := (sSetO 2 (l1 uList (fVar 0)))
/-! _law_behind -/
omit [TabSet] in
@[simp] def b_law_behind : MS := (sSeq s_law_behind_0 (sSeq s_law_behind_1 (sSeq s_law_behind_2 sNil)))
omit [TabSet] in
def m_law_behind : MF := mOf 4 2 b_law_behind
omit [TabSet] in
theorem sc_law_behind : FnScope ["_law_row", "_law_change_here", "_law_found", "_law_place"] ["_law_row", "_law_change_here"] (defScope (topS 52)) := ⟨rfl, rfl, rfl, by decide +kernel, rfl, by decide +kernel, by decide +kernel⟩
theorem d_law_behind (G : Env K mg) : DefOk P w K mg base "_law_behind" 1 (spF mg m_law_behind) :=
  have Sc := sc_law_behind
  def_pure (k := 0) G.f_law_behind Sc (by decide) fun cdv A outer s H E F fa hr =>
  (s_cons (s_setO (i := 2) Sc.nd (f_listOf (hm := G.n_list) (ha := (x_of (e_var (i := 0))))))
  (s_cons (s_for (passes_of rfl) rfl (i_seq (e_var (i := 1))) (g_name (i := 3) Sc.nd)
  (s_cons (s_asgh (e_tup (a_cons (e_ixE hr (e_var (i := 0)) (e_add (e_var (i := 3)) e_int)) (a_cons (e_ixE hr (e_var (i := 0)) (e_var (i := 3))) a_nil))) (gh_tup rfl (ghs_cons (gh_sub (i := 2) (p_var (i := 3))) (ghs_cons (gh_sub (i := 2) (p_addN (p_var (i := 3)) p_int)) ghs_nil)) (gsCons_len (gsCons_len gsNil_len))))
  s_nil))
  (s_cons (s_ret (e_tupOf (hm := G.n_tuple) (ha := (x_peek (i := 2)))))
  s_nil)))
/-! _law_rung -/
omit [TabSet] in
@[simp] def s_law_rung_2 : MS := (sRet (fList (lSl (fPeek 2) (oInt (pC (.int 1))) oNo)))
omit [TabSet] in
def l_law_rung_1 : MS := (sSeq (sApp 2 (fCall m_law_behind (aCons (fIxX (fPeek 2) (pNeg (pC (.int 1)))) (aCons (fVar 3) aNil))))
  sNil)
omit [TabSet] in
@[simp] def s_law_rung_1 : MS := (sFor (iSeq (fVar 1)) (gN 3)
  l_law_rung_1)
omit [TabSet] in
@[simp] def s_law_rung_0 : MS := (sSetO 2 (lLst (aCons (fVar 0) aNil)))
/-! _law_rung -/
omit [TabSet] in
@[simp] def b_law_rung : MS := (sSeq s_law_rung_0 (sSeq s_law_rung_1 (sSeq s_law_rung_2 sNil)))
omit [TabSet] in
def m_law_rung : MF := mOf 4 2 b_law_rung
omit [TabSet] in
theorem sc_law_rung : FnScope ["_law_row", "_law_lead_here", "_law_found", "_law_change_here"] ["_law_row", "_law_lead_here"] (defScope (topS 53)) := ⟨rfl, rfl, rfl, by decide +kernel, rfl, by decide +kernel, by decide +kernel⟩
theorem d_law_rung (G : Env K mg) : DefOk P w K mg base "_law_rung" 2 (spF mg m_law_rung) :=
  have Sc := sc_law_rung
  def_pure (k := 1) G.f_law_rung Sc (by decide) fun cdv A outer s H E F fa hr =>
  (s_cons (s_setO (i := 2) Sc.nd (f_lst (a_cons (e_var (i := 0)) a_nil)))
  (s_cons (s_for (passes_of rfl) rfl (i_seq (e_var (i := 1))) (g_name (i := 3) Sc.nd)
  (s_cons (s_app (i := 2) (e_call ((d_law_behind G).mono (by decide)) hr (a_cons (e_ixX (x_peek (i := 2)) (p_neg p_int)) (a_cons (e_var (i := 3)) a_nil))))
  s_nil))
  (s_cons (s_ret (se_f (f_sl (x_peek (i := 2)) (o_int p_int) o_no)))
  s_nil)))
/-! _law_led -/
omit [TabSet] in
@[simp] def s_law_led_0 : MS := (sRet (fOp ixE (fCall m_law_rung (aCons (fVar 0) (aCons (fVar 1) aNil))) (fNeg (fC (.int 1)))))
/-! _law_led -/
omit [TabSet] in
@[simp] def b_law_led : MS := (sSeq s_law_led_0 sNil)
omit [TabSet] in
def m_law_led : MF := mOf 2 2 b_law_led
omit [TabSet] in
theorem sc_law_led : FnScope ["_law_row", "_law_lead_here"] ["_law_row", "_law_lead_here"] (defScope (topS 54)) := ⟨rfl, rfl, rfl, by decide +kernel, rfl, by decide +kernel, by decide +kernel⟩
theorem d_law_led (G : Env K mg) : DefOk P w K mg base "_law_led" 3 (spF mg m_law_led) :=
  have Sc := sc_law_led
  def_pure (k := 2) G.f_law_led Sc (by decide) fun cdv A outer s H E F fa hr =>
  (s_cons (s_ret (e_ixE hr (e_call ((d_law_rung G).mono (by decide)) hr (a_cons (e_var (i := 0)) (a_cons (e_var (i := 1)) a_nil))) (e_neg e_int)))
  s_nil)
/-! _law_rounds -/
omit [TabSet] in
@[simp] def s_law_rounds_0 : MS := (sRet (fTupRg (r1 (fVar 0))))
/-! _law_rounds -/
omit [TabSet] in
@[simp] def b_law_rounds : MS := (sSeq s_law_rounds_0 sNil)
omit [TabSet] in
def m_law_rounds : MF := mOf 1 1 b_law_rounds
omit [TabSet] in
theorem sc_law_rounds : FnScope ["_law_bells"] ["_law_bells"] (defScope (topS 55)) := ⟨rfl, rfl, rfl, by decide +kernel, rfl, by decide +kernel, by decide +kernel⟩
theorem d_law_rounds (G : Env K mg) : DefOk P w K mg base "_law_rounds" 1 (spF mg m_law_rounds) :=
  have Sc := sc_law_rounds
  def_pure (k := 0) G.f_law_rounds Sc (by decide) fun cdv A outer s H E F fa hr =>
  (s_cons (s_ret (e_tupRg (hc := rfl) (hm := G.n_tuple) (he := (rg_1 (hm := G.n_range) (ha := (e_var (i := 0)))))))
  s_nil)
/-! _law_changes -/
omit [TabSet] in
@[simp] def s_law_changes_2 : MS := (sRet (f1 uSorted (fVar 1)))
omit [TabSet] in
def l_law_changes_1 : MS := (sSeq (sSet 1 (fOp opAdd (fVar 1) (fList (lComp (iSeq (fVar 1)) (gN 3) (fOrT (fCmpT cEq (fVar 3) (fTup aNil)) (fCmpT cLt (fOp ixE (fVar 3) (fNeg (fC (.int 1)))) (fOp opSub (fVar 2) (fC (.int 1))))) (fOp opAdd (fVar 3) (fTup (aCons (fVar 2) aNil))) [3]))))
  sNil)
omit [TabSet] in
@[simp] def s_law_changes_1 : MS := (sFor (lRg (r1 (fOp opSub (fVar 0) (fC (.int 1))))) (gN 2)
  l_law_changes_1)
omit [TabSet] in
@[simp] def s_law_changes_0 : MS := (sSet 1 (fList (lLst (aCons (fTup aNil) aNil))))
/-! _law_changes -/
omit [TabSet] in
@[simp] def b_law_changes : MS := (sSeq s_law_changes_0 (sSeq s_law_changes_1 (sSeq s_law_changes_2 sNil)))
omit [TabSet] in
def m_law_changes : MF := mOf 4 1 b_law_changes
omit [TabSet] in
theorem sc_law_changes : FnScope ["_law_bells", "_law_found", "_law_place", "_law_change_here"] ["_law_bells"] (defScope (topS 56)) := ⟨rfl, rfl, rfl, by decide +kernel, rfl, by decide +kernel, by decide +kernel⟩
theorem d_law_changes (G : Env K mg) : DefOk P w K mg base "_law_changes" 1 (spF mg m_law_changes) :=
  have Sc := sc_law_changes
  def_pure (k := 0) G.f_law_changes Sc (by decide) fun cdv A outer s H E F fa hr =>
  (s_cons (s_set (i := 1) Sc.nd (se_f (f_lst (a_cons (e_tup a_nil) a_nil))))
  (s_cons (s_for (passes_of rfl) rfl (i_rg1 (hm := G.n_range) (ha := (e_sub (e_var (i := 0)) e_int))) (g_name (i := 2) Sc.nd)
  (s_cons (s_set (i := 1) Sc.nd (e_add (e_var (i := 1)) (se_f (e_lc' (own := [("_law_change_here", 3)]) rfl Sc.nd (i_seq (e_var (i := 1))) (blkOk_by (by rfl)) (fun s H C cl fp => (g_name (i := 3) Sc.nd)) (fun s H C cl fp => (ts_one (w_or (t_cmp (ck_eq hr) (e_var (i := 3)) (e_tup a_nil)) (w_or1 (t_cmp ck_lt (e_ixE hr (e_var (i := 3)) (e_neg e_int)) (e_sub (e_var (i := 2)) e_int)))).pt)) (fun s H C cl fp => (e_add (e_var (i := 3)) (e_tup (a_cons (e_var (i := 2)) a_nil))))))))
  s_nil))
  (s_cons (s_ret (e_sorted (hr := hr) (hm := G.n_sorted) (ha := (x_of (e_var (i := 1))))))
  s_nil)))
/-! _law_change -/
omit [TabSet] in
@[simp] def s_law_change_1 : MS := (sRet (fCallC 0 m_law_some (aCons (fOp opAdd (fOp opMul (fSlA (fVar 2) (oInt (pC (.int 1))) oNo) (fC (.int 3))) (fVar 2)) aNil)))
omit [TabSet] in
@[simp] def s_law_change_0 : MS := (sSet 2 (fCall m_law_changes (aCons (fVar 1) aNil)))
/-! _law_change -/
omit [TabSet] in
@[simp] def b_law_change : MS := (sSeq s_law_change_0 (sSeq s_law_change_1 sNil))
omit [TabSet] in
def m_law_change : MC := mOfC 3 2 b_law_change
omit [TabSet] in
theorem sc_law_change : FnScope ["_law_cup_here", "_law_bells", "_law_some_here"] ["_law_cup_here", "_law_bells"] (defScope (topS 57)) := ⟨rfl, rfl, rfl, by decide +kernel, rfl, by decide +kernel, by decide +kernel⟩
theorem d_law_change (G : Env K mg) : DefOk P w K mg base "_law_change" 3 (spC m_law_change) :=
  have Sc := sc_law_change
  def_cup (k := 2) G.f_law_change Sc (by decide) fun cdv A outer s H E F fa hr =>
  (s_cons (s_set (i := 2) Sc.nd (e_call ((d_law_changes G).mono (by decide)) hr (a_cons (e_var (i := 1)) a_nil)))
  (s_cons (s_ret (e_callC (i := 0) ((d_law_some G).mono (by decide)) hr (a_cons (e_add (e_mul (e_slA (e_var (i := 2)) (o_int p_int) o_no) e_int) (e_var (i := 2))) a_nil)))
  s_nil))
/-! _law_lead -/
omit [TabSet] in
@[simp] def s_law_lead_0 : MS := (sRet (f1 uTup (fList (lComp (lRg (r1 (fOp opAdd (fC (.int 1)) (fCallC 0 m_law_roll (aCons (fVar 2) aNil))))) (gN 3) tTrue (fCallC 0 m_law_change (aCons (fVar 1) aNil)) [3]))))
/-! _law_lead -/
omit [TabSet] in
@[simp] def b_law_lead : MS := (sSeq s_law_lead_0 sNil)
omit [TabSet] in
def m_law_lead : MC := mOfC 4 3 b_law_lead
omit [TabSet] in
theorem sc_law_lead : FnScope ["_law_cup_here", "_law_bells", "_law_most", "_law_turn"] ["_law_cup_here", "_law_bells", "_law_most"] (defScope (topS 58)) := ⟨rfl, rfl, rfl, by decide +kernel, rfl, by decide +kernel, by decide +kernel⟩
theorem d_law_lead (G : Env K mg) : DefOk P w K mg base "_law_lead" 4 (spC m_law_lead) :=
  have Sc := sc_law_lead
  def_cup (k := 3) G.f_law_lead Sc (by decide) fun cdv A outer s H E F fa hr =>
  (s_cons (s_ret (e_tupOf (hm := G.n_tuple) (ha := (x_f (e_lc' (own := [("_law_turn", 3)]) rfl Sc.nd (i_rg1 (hm := G.n_range) (ha := (e_add e_int (e_callC (i := 0) ((d_law_roll G).mono (by decide)) hr (a_cons (e_var (i := 2)) a_nil))))) (blkOk_by (by rfl)) (fun s H C cl fp => (g_name (i := 3) Sc.nd)) (fun s H C cl fp => ts_nil) (fun s H C cl fp => (e_callC (i := 0) ((d_law_change G).mono (by decide)) hr (a_cons (e_var (i := 1)) a_nil))))))))
  s_nil)
/-! _law_sort -/
omit [TabSet] in
@[simp] def s_law_sort_4 : MS := (sRet (fIf (fB (f1 (uIs "tuple") (fVar 0))) (fC (.int 5)) (fC (.int 6))))
omit [TabSet] in
def t_law_sort_4 : MS := (sSeq s_law_sort_4 sNil)
omit [TabSet] in
@[simp] def s_law_sort_3 : MS := (sIf (fB (f1 (uIs "list") (fVar 0)))
  (sSeq (sRet (fC (.int 4)))
  sNil)
  sNil)
omit [TabSet] in
def t_law_sort_3 : MS := (sSeq s_law_sort_3 t_law_sort_4)
omit [TabSet] in
@[simp] def s_law_sort_2 : MS := (sIf (fB (f1 (uIs "str") (fVar 0)))
  (sSeq (sRet (fC (.int 3)))
  sNil)
  sNil)
omit [TabSet] in
def t_law_sort_2 : MS := (sSeq s_law_sort_2 t_law_sort_3)
omit [TabSet] in
@[simp] def s_law_sort_1 : MS := (sIf (fB (f1 (uIs "int") (fVar 0)))
  (sSeq (sRet (fC (.int 2)))
  sNil)
  sNil)
omit [TabSet] in
def t_law_sort_1 : MS := (sSeq s_law_sort_1 t_law_sort_2)
omit [TabSet] in
@[simp] def s_law_sort_0 : MS := (sIf (fB (f1 (uIs "bool") (fVar 0)))
  (sSeq (sRet (fC (.int 1)))
  sNil)
  sNil)
/-! _law_sort -/
omit [TabSet] in
@[simp] def b_law_sort : MS := (sSeq s_law_sort_0 t_law_sort_1)
omit [TabSet] in
def m_law_sort : MF := mOf 1 1 b_law_sort
omit [TabSet] in
theorem sc_law_sort : FnScope ["_law_thing"] ["_law_thing"] (defScope (topS 59)) := ⟨rfl, rfl, rfl, by decide +kernel, rfl, by decide +kernel, by decide +kernel⟩
theorem d_law_sort (G : Env K mg) : DefOk P w K mg base "_law_sort" 1 (spF mg m_law_sort) :=
  have Sc := sc_law_sort
  def_pure (k := 0) G.f_law_sort Sc (by decide) fun cdv A outer s H E F fa hr =>
  (s_cons (s_if (t_val (e_isi (T := "bool") (hm := G.n_isinstance) (hmT := G.n_bool) (hvT := by rfl) (ha := (x_of (e_var (i := 0))))))
  (s_cons (s_ret e_int)
  s_nil)
  s_nil)
  (s_cons (s_if (t_val (e_isi (T := "int") (hm := G.n_isinstance) (hmT := G.n_int) (hvT := by rfl) (ha := (x_of (e_var (i := 0))))))
  (s_cons (s_ret e_int)
  s_nil)
  s_nil)
  (s_cons (s_if (t_val (e_isi (T := "str") (hm := G.n_isinstance) (hmT := G.n_str) (hvT := by rfl) (ha := (x_of (e_var (i := 0))))))
  (s_cons (s_ret e_int)
  s_nil)
  s_nil)
  (s_cons (s_if (t_val (e_isi (T := "list") (hm := G.n_isinstance) (hmT := G.n_list) (hvT := by rfl) (ha := (x_of (e_var (i := 0))))))
  (s_cons (s_ret e_int)
  s_nil)
  s_nil)
  (s_cons (s_ret (e_if (t_val (e_isi (T := "tuple") (hm := G.n_isinstance) (hmT := G.n_tuple) (hvT := by rfl) (ha := (x_of (e_var (i := 0)))))) e_int e_int))
  s_nil)))))
/-! _law_like -/
/-! _law_like -/
omit [TabSet] in
@[simp] def b_law_like_r0 : MS := (sSeq sVac (sSeq sVac (sSeq sVac sNil)))
omit [TabSet] in
def m_law_like_r0 : MF := mOf 4 2 b_law_like_r0
omit [TabSet] in
theorem sc_law_like_r0 : FnScope ["_law_told", "_law_due", "_law_one", "_law_other"] ["_law_told", "_law_due"] (defScope (topS 60)) := ⟨rfl, rfl, rfl, by decide +kernel, rfl, by decide +kernel, by decide +kernel⟩
theorem d_law_like_r0 (G : Env K mg) : DefOk P w K mg base "_law_like" 2 (spF mg m_law_like_r0) :=
  have Sc := sc_law_like_r0
  def_pure (k := 1) G.f_law_like Sc (by decide) fun cdv A outer s H E F fa hr =>
  (s_cons s_vac
  (s_cons s_vac
  (s_cons s_vac
  s_nil)))
/-! _law_like -/
omit [TabSet] in
@[simp] def s_law_like_r1_2 : MS := (sRet (fCmp cEq (fVar 0) (fVar 1)))
omit [TabSet] in
@[simp] def s_law_like_r1_1 : MS := (sIf (fCmpT cInE (fCall m_law_sort (aCons (fVar 1) aNil)) (fTup (aCons (fC (.int 4)) (aCons (fC (.int 5)) aNil))))
  (sSeq (sRet (fAndV (fCmp cEq (f1 uLen (fVar 0)) (f1 uLen (fVar 1))) (fCmp cEq (fList (lComp (iZip2 (fVar 0) (fVar 1)) (gT (gsCons (gN 2) (gsCons (gN 3) gsNil))) (fNotT (fB (fCall m_law_like_r0 (aCons (fVar 2) (aCons (fVar 3) aNil))))) (fC (.int 1)) [2, 3])) (fList (lLst aNil)))))
  sNil)
  sNil)
omit [TabSet] in
@[simp] def s_law_like_r1_0 : MS := (sIf (fCmpT cNe (fCall m_law_sort (aCons (fVar 0) aNil)) (fCall m_law_sort (aCons (fVar 1) aNil)))
  (sSeq (sRet (fC (.bool false)))
  sNil)
  sNil)
/-! _law_like -/
omit [TabSet] in
@[simp] def b_law_like_r1 : MS := (sSeq s_law_like_r1_0 (sSeq s_law_like_r1_1 (sSeq s_law_like_r1_2 sNil)))
omit [TabSet] in
def m_law_like_r1 : MF := mOf 4 2 b_law_like_r1
omit [TabSet] in
theorem sc_law_like_r1 : FnScope ["_law_told", "_law_due", "_law_one", "_law_other"] ["_law_told", "_law_due"] (defScope (topS 60)) := ⟨rfl, rfl, rfl, by decide +kernel, rfl, by decide +kernel, by decide +kernel⟩
theorem d_law_like_r1 (G : Env K mg) : DefOk P w K mg base "_law_like" 3 (spF mg m_law_like_r1) :=
  have Sc := sc_law_like_r1
  def_pure (k := 2) G.f_law_like Sc (by decide) fun cdv A outer s H E F fa hr =>
  (s_cons (s_if (t_cmp (ck_ne hr) (e_call ((d_law_sort G).mono (by decide)) hr (a_cons (e_var (i := 0)) a_nil)) (e_call ((d_law_sort G).mono (by decide)) hr (a_cons (e_var (i := 1)) a_nil)))
  (s_cons (s_ret e_bl)
  s_nil)
  s_nil)
  (s_cons (s_if (t_cmp (ck_inE hr) (e_call ((d_law_sort G).mono (by decide)) hr (a_cons (e_var (i := 1)) a_nil)) (e_tup (a_cons e_int (a_cons e_int a_nil))))
  (s_cons (s_ret (e_and (e_cmp (ck_eq hr) (e_len (hm := G.n_len) (ha := (x_of (e_var (i := 0))))) (e_len (hm := G.n_len) (ha := (x_of (e_var (i := 1)))))) (e_one (e_cmp (ck_eq hr) (se_f (e_lc' (own := [("_law_one", 2), ("_law_other", 3)]) rfl Sc.nd (i_zip (hm := G.n_zip) (ha := (e_var (i := 0))) (hb := (e_var (i := 1)))) (blkOk_by (by rfl)) (fun s H C cl fp => (g_tup rfl (gs_cons (g_name (i := 2) Sc.nd) (gs_cons (g_name (i := 3) Sc.nd) gs_nil)) rfl rfl (gsCons_len (gsCons_len gsNil_len)))) (fun s H C cl fp => (ts_one (t_not (t_val (e_call ((d_law_like_r0 G).mono (by decide)) hr (a_cons (e_var (i := 2)) (a_cons (e_var (i := 3)) a_nil))))))) (fun s H C cl fp => e_int))) (se_f (f_lst a_nil))))))
  s_nil)
  s_nil)
  (s_cons (s_ret (e_cmp (ck_eq hr) (e_var (i := 0)) (e_var (i := 1))))
  s_nil)))
/-! _law_like -/
omit [TabSet] in
@[simp] def s_law_like_r2_2 : MS := (sRet (fCmp cEq (fVar 0) (fVar 1)))
omit [TabSet] in
@[simp] def s_law_like_r2_1 : MS := (sIf (fCmpT cInE (fCall m_law_sort (aCons (fVar 1) aNil)) (fTup (aCons (fC (.int 4)) (aCons (fC (.int 5)) aNil))))
  (sSeq (sRet (fAndV (fCmp cEq (f1 uLen (fVar 0)) (f1 uLen (fVar 1))) (fCmp cEq (fList (lComp (iZip2 (fVar 0) (fVar 1)) (gT (gsCons (gN 2) (gsCons (gN 3) gsNil))) (fNotT (fB (fCall m_law_like_r1 (aCons (fVar 2) (aCons (fVar 3) aNil))))) (fC (.int 1)) [2, 3])) (fList (lLst aNil)))))
  sNil)
  sNil)
omit [TabSet] in
@[simp] def s_law_like_r2_0 : MS := (sIf (fCmpT cNe (fCall m_law_sort (aCons (fVar 0) aNil)) (fCall m_law_sort (aCons (fVar 1) aNil)))
  (sSeq (sRet (fC (.bool false)))
  sNil)
  sNil)
/-! _law_like -/
omit [TabSet] in
@[simp] def b_law_like_r2 : MS := (sSeq s_law_like_r2_0 (sSeq s_law_like_r2_1 (sSeq s_law_like_r2_2 sNil)))
omit [TabSet] in
def m_law_like_r2 : MF := mOf 4 2 b_law_like_r2
omit [TabSet] in
theorem sc_law_like_r2 : FnScope ["_law_told", "_law_due", "_law_one", "_law_other"] ["_law_told", "_law_due"] (defScope (topS 60)) := ⟨rfl, rfl, rfl, by decide +kernel, rfl, by decide +kernel, by decide +kernel⟩
theorem d_law_like_r2 (G : Env K mg) : DefOk P w K mg base "_law_like" 4 (spF mg m_law_like_r2) :=
  have Sc := sc_law_like_r2
  def_pure (k := 3) G.f_law_like Sc (by decide) fun cdv A outer s H E F fa hr =>
  (s_cons (s_if (t_cmp (ck_ne hr) (e_call ((d_law_sort G).mono (by decide)) hr (a_cons (e_var (i := 0)) a_nil)) (e_call ((d_law_sort G).mono (by decide)) hr (a_cons (e_var (i := 1)) a_nil)))
  (s_cons (s_ret e_bl)
  s_nil)
  s_nil)
  (s_cons (s_if (t_cmp (ck_inE hr) (e_call ((d_law_sort G).mono (by decide)) hr (a_cons (e_var (i := 1)) a_nil)) (e_tup (a_cons e_int (a_cons e_int a_nil))))
  (s_cons (s_ret (e_and (e_cmp (ck_eq hr) (e_len (hm := G.n_len) (ha := (x_of (e_var (i := 0))))) (e_len (hm := G.n_len) (ha := (x_of (e_var (i := 1)))))) (e_one (e_cmp (ck_eq hr) (se_f (e_lc' (own := [("_law_one", 2), ("_law_other", 3)]) rfl Sc.nd (i_zip (hm := G.n_zip) (ha := (e_var (i := 0))) (hb := (e_var (i := 1)))) (blkOk_by (by rfl)) (fun s H C cl fp => (g_tup rfl (gs_cons (g_name (i := 2) Sc.nd) (gs_cons (g_name (i := 3) Sc.nd) gs_nil)) rfl rfl (gsCons_len (gsCons_len gsNil_len)))) (fun s H C cl fp => (ts_one (t_not (t_val (e_call ((d_law_like_r1 G).mono (by decide)) hr (a_cons (e_var (i := 2)) (a_cons (e_var (i := 3)) a_nil))))))) (fun s H C cl fp => e_int))) (se_f (f_lst a_nil))))))
  s_nil)
  s_nil)
  (s_cons (s_ret (e_cmp (ck_eq hr) (e_var (i := 0)) (e_var (i := 1))))
  s_nil)))
/-! _law_like -/
omit [TabSet] in
@[simp] def s_law_like_r3_2 : MS := (sRet (fCmp cEq (fVar 0) (fVar 1)))
omit [TabSet] in
@[simp] def s_law_like_r3_1 : MS := (sIf (fCmpT cInE (fCall m_law_sort (aCons (fVar 1) aNil)) (fTup (aCons (fC (.int 4)) (aCons (fC (.int 5)) aNil))))
  (sSeq (sRet (fAndV (fCmp cEq (f1 uLen (fVar 0)) (f1 uLen (fVar 1))) (fCmp cEq (fList (lComp (iZip2 (fVar 0) (fVar 1)) (gT (gsCons (gN 2) (gsCons (gN 3) gsNil))) (fNotT (fB (fCall m_law_like_r2 (aCons (fVar 2) (aCons (fVar 3) aNil))))) (fC (.int 1)) [2, 3])) (fList (lLst aNil)))))
  sNil)
  sNil)
omit [TabSet] in
@[simp] def s_law_like_r3_0 : MS := (sIf (fCmpT cNe (fCall m_law_sort (aCons (fVar 0) aNil)) (fCall m_law_sort (aCons (fVar 1) aNil)))
  (sSeq (sRet (fC (.bool false)))
  sNil)
  sNil)
/-! _law_like -/
omit [TabSet] in
@[simp] def b_law_like_r3 : MS := (sSeq s_law_like_r3_0 (sSeq s_law_like_r3_1 (sSeq s_law_like_r3_2 sNil)))
omit [TabSet] in
def m_law_like_r3 : MF := mOf 4 2 b_law_like_r3
omit [TabSet] in
theorem sc_law_like_r3 : FnScope ["_law_told", "_law_due", "_law_one", "_law_other"] ["_law_told", "_law_due"] (defScope (topS 60)) := ⟨rfl, rfl, rfl, by decide +kernel, rfl, by decide +kernel, by decide +kernel⟩
theorem d_law_like_r3 (G : Env K mg) : DefOk P w K mg base "_law_like" 5 (spF mg m_law_like_r3) :=
  have Sc := sc_law_like_r3
  def_pure (k := 4) G.f_law_like Sc (by decide) fun cdv A outer s H E F fa hr =>
  (s_cons (s_if (t_cmp (ck_ne hr) (e_call ((d_law_sort G).mono (by decide)) hr (a_cons (e_var (i := 0)) a_nil)) (e_call ((d_law_sort G).mono (by decide)) hr (a_cons (e_var (i := 1)) a_nil)))
  (s_cons (s_ret e_bl)
  s_nil)
  s_nil)
  (s_cons (s_if (t_cmp (ck_inE hr) (e_call ((d_law_sort G).mono (by decide)) hr (a_cons (e_var (i := 1)) a_nil)) (e_tup (a_cons e_int (a_cons e_int a_nil))))
  (s_cons (s_ret (e_and (e_cmp (ck_eq hr) (e_len (hm := G.n_len) (ha := (x_of (e_var (i := 0))))) (e_len (hm := G.n_len) (ha := (x_of (e_var (i := 1)))))) (e_one (e_cmp (ck_eq hr) (se_f (e_lc' (own := [("_law_one", 2), ("_law_other", 3)]) rfl Sc.nd (i_zip (hm := G.n_zip) (ha := (e_var (i := 0))) (hb := (e_var (i := 1)))) (blkOk_by (by rfl)) (fun s H C cl fp => (g_tup rfl (gs_cons (g_name (i := 2) Sc.nd) (gs_cons (g_name (i := 3) Sc.nd) gs_nil)) rfl rfl (gsCons_len (gsCons_len gsNil_len)))) (fun s H C cl fp => (ts_one (t_not (t_val (e_call ((d_law_like_r2 G).mono (by decide)) hr (a_cons (e_var (i := 2)) (a_cons (e_var (i := 3)) a_nil))))))) (fun s H C cl fp => e_int))) (se_f (f_lst a_nil))))))
  s_nil)
  s_nil)
  (s_cons (s_ret (e_cmp (ck_eq hr) (e_var (i := 0)) (e_var (i := 1))))
  s_nil)))
/-! _law_like -/
omit [TabSet] in
@[simp] def s_law_like_r4_2 : MS := (sRet (fCmp cEq (fVar 0) (fVar 1)))
omit [TabSet] in
@[simp] def s_law_like_r4_1 : MS := (sIf (fCmpT cInE (fCall m_law_sort (aCons (fVar 1) aNil)) (fTup (aCons (fC (.int 4)) (aCons (fC (.int 5)) aNil))))
  (sSeq (sRet (fAndV (fCmp cEq (f1 uLen (fVar 0)) (f1 uLen (fVar 1))) (fCmp cEq (fList (lComp (iZip2 (fVar 0) (fVar 1)) (gT (gsCons (gN 2) (gsCons (gN 3) gsNil))) (fNotT (fB (fCall m_law_like_r3 (aCons (fVar 2) (aCons (fVar 3) aNil))))) (fC (.int 1)) [2, 3])) (fList (lLst aNil)))))
  sNil)
  sNil)
omit [TabSet] in
@[simp] def s_law_like_r4_0 : MS := (sIf (fCmpT cNe (fCall m_law_sort (aCons (fVar 0) aNil)) (fCall m_law_sort (aCons (fVar 1) aNil)))
  (sSeq (sRet (fC (.bool false)))
  sNil)
  sNil)
/-! _law_like -/
omit [TabSet] in
@[simp] def b_law_like_r4 : MS := (sSeq s_law_like_r4_0 (sSeq s_law_like_r4_1 (sSeq s_law_like_r4_2 sNil)))
omit [TabSet] in
def m_law_like_r4 : MF := mOf 4 2 b_law_like_r4
omit [TabSet] in
theorem sc_law_like_r4 : FnScope ["_law_told", "_law_due", "_law_one", "_law_other"] ["_law_told", "_law_due"] (defScope (topS 60)) := ⟨rfl, rfl, rfl, by decide +kernel, rfl, by decide +kernel, by decide +kernel⟩
theorem d_law_like_r4 (G : Env K mg) : DefOk P w K mg base "_law_like" 6 (spF mg m_law_like_r4) :=
  have Sc := sc_law_like_r4
  def_pure (k := 5) G.f_law_like Sc (by decide) fun cdv A outer s H E F fa hr =>
  (s_cons (s_if (t_cmp (ck_ne hr) (e_call ((d_law_sort G).mono (by decide)) hr (a_cons (e_var (i := 0)) a_nil)) (e_call ((d_law_sort G).mono (by decide)) hr (a_cons (e_var (i := 1)) a_nil)))
  (s_cons (s_ret e_bl)
  s_nil)
  s_nil)
  (s_cons (s_if (t_cmp (ck_inE hr) (e_call ((d_law_sort G).mono (by decide)) hr (a_cons (e_var (i := 1)) a_nil)) (e_tup (a_cons e_int (a_cons e_int a_nil))))
  (s_cons (s_ret (e_and (e_cmp (ck_eq hr) (e_len (hm := G.n_len) (ha := (x_of (e_var (i := 0))))) (e_len (hm := G.n_len) (ha := (x_of (e_var (i := 1)))))) (e_one (e_cmp (ck_eq hr) (se_f (e_lc' (own := [("_law_one", 2), ("_law_other", 3)]) rfl Sc.nd (i_zip (hm := G.n_zip) (ha := (e_var (i := 0))) (hb := (e_var (i := 1)))) (blkOk_by (by rfl)) (fun s H C cl fp => (g_tup rfl (gs_cons (g_name (i := 2) Sc.nd) (gs_cons (g_name (i := 3) Sc.nd) gs_nil)) rfl rfl (gsCons_len (gsCons_len gsNil_len)))) (fun s H C cl fp => (ts_one (t_not (t_val (e_call ((d_law_like_r3 G).mono (by decide)) hr (a_cons (e_var (i := 2)) (a_cons (e_var (i := 3)) a_nil))))))) (fun s H C cl fp => e_int))) (se_f (f_lst a_nil))))))
  s_nil)
  s_nil)
  (s_cons (s_ret (e_cmp (ck_eq hr) (e_var (i := 0)) (e_var (i := 1))))
  s_nil)))
/-! _law_kin -/
omit [TabSet] in
def kl_law_kin : List (Str × Str) := [("InvalidTour", "tour"), ("InvalidBell", "bell"), ("InvalidMany", "many"), ("InvalidPairs", "pairs"), ("InvalidWay", "way"), ("InvalidBells", "bells"), ("InvalidLead", "lead"), ("InvalidCalls", "calls"), ("TooMany", "full"), ("NothingToUndo", "undo"), ("NothingToRedo", "redo")]
omit [TabSet] in
def ktab_law_kin : List ((Str × Str) × Bool) := [(("InvalidBell", "InvalidTour"), false), (("InvalidBell", "InvalidBell"), true), (("InvalidTour", "InvalidTour"), true)]
omit [TabSet] in
def ktlaw_kin : Str → Str → Option Bool := mtOf ktab_law_kin
omit [TabSet] in
theorem kt_law_kin (G : Env K mg) : KtOk K mg ktlaw_kin ((mg "OnceError").getD .none) := kt_ok (tab := ktab_law_kin) (cs := ["InvalidBell", "InvalidTour"]) ⟨G.kq_InvalidBell_InvalidTour, G.kq_InvalidBell_InvalidBell, G.kq_InvalidTour_InvalidTour, trivial⟩ ⟨G.kx_InvalidBell, G.kx_InvalidTour, trivial⟩ rfl
omit [TabSet] in
theorem sc_law_kin : FnScope ["_law_e"] ["_law_e"] (defScope (topS 61)) := ⟨rfl, rfl, rfl, by decide +kernel, rfl, by decide +kernel, by decide +kernel⟩
theorem ka_law_kin (G : Env K mg) : KinAt P w K mg base "_law_kin" 1 ktlaw_kin "other" kl_law_kin :=
  kin_at G.f_law_kin sc_law_kin fun cdv A outer s H f p c hE hp =>
  (k_if hE hp (kt_law_kin G).ki G.n_isinstance (k_if hE hp (kt_law_kin G).ki G.n_isinstance (k_if hE hp (kt_law_kin G).ki G.n_isinstance (k_if hE hp (kt_law_kin G).ki G.n_isinstance (k_if hE hp (kt_law_kin G).ki G.n_isinstance (k_if hE hp (kt_law_kin G).ki G.n_isinstance (k_if hE hp (kt_law_kin G).ki G.n_isinstance (k_if hE hp (kt_law_kin G).ki G.n_isinstance (k_if hE hp (kt_law_kin G).ki G.n_isinstance (k_if hE hp (kt_law_kin G).ki G.n_isinstance (k_last hE hp (kt_law_kin G).ki G.n_isinstance)))))))))))
/-! _law_try -/
omit [TabSet] in
abbrev kl_law_try : List (Str × Str) := kl_law_kin
omit [TabSet] in
abbrev ktlaw_try : Str → Str → Option Bool := ktlaw_kin
omit [TabSet] in
abbrev tw_law_try : Str := "told"
omit [TabSet] in
theorem kt_law_try (G : Env K mg) : KtOk K mg ktlaw_try ((mg "OnceError").getD .none) := kt_law_kin G
omit [TabSet] in
theorem sc_law_try : FnScope ["_law_call_so", "_law_found", "_law_e"] ["_law_call_so"] (defScope (topS 62)) := ⟨rfl, rfl, rfl, by decide +kernel, rfl, by decide +kernel, by decide +kernel⟩
theorem t_law_try {X : Cx} (G : Env X.K X.mg) {k : Nat} (hr : Room (k + 2) X.A) {q : Str} : ∀ g cdv, LamX.GivesTo X ["_law_call_so", "_law_found", "_law_e"] "_law_try" (defScope (topS 62)) g cdv (defBody (topS 62)) "_law_call_so" q (TTt X.K X.mg ktlaw_try "other" kl_law_try ((X.mg "OnceError").getD .none) tw_law_try) :=
  fun g cdv => told_try (k := 1) (ka_law_kin G) (L2H.roomH_of (hr.mono (by omega))) (getD_some G.k_OnceError)
/-! _law_method -/
omit [TabSet] in
@[simp] def s_law_method_3 : MS := (sRet (fTup (aCons (fVar 1) (aCons (fVar 3) (aCons (f1 uTup (fList (lComp (lRg (r1 (fCallC 0 m_law_roll (aCons (fC (.int 3)) aNil)))) (gN 5) tTrue (fCallC 0 m_law_change (aCons (fVar 1) aNil)) [5]))) aNil)))))
omit [TabSet] in
@[simp] def s_law_method_2 : MS := (sSet 3 (fCallC 0 m_law_some (aCons (fList (lLst (aCons (fVar 2) (aCons (fSlA (fVar 2) oNo (oInt (pVar 1))) (aCons (fSlA (fVar 2) oNo (oInt (pC (.int 2)))) (aCons (fCallC 0 m_law_lead (aCons (fVar 1) (aCons (fC (.int 5)) aNil))) (aCons (fCallC 0 m_law_lead (aCons (fVar 1) (aCons (fC (.int 5)) aNil))) aNil))))))) aNil)))
omit [TabSet] in
@[simp] def s_law_method_1 : MS := (sSet 2 (f1 uTup (fList (lComp (lRg (r1 (fOp opMul (fC (.int 2)) (fVar 1)))) (gN 4) tTrue (fTupRg2 (r2 (fOp opMod (fVar 4) (fC (.int 2))) (fOp opSub (fVar 1) (fC (.int 1))))) [4]))))
omit [TabSet] in
@[simp] def s_law_method_0 : MS := (sSet 1 (fCallC 0 m_law_some (aCons (fList (lLst (aCons (fC (.int 2)) (aCons (fC (.int 3)) (aCons (fC (.int 3)) (aCons (fC (.int 4)) (aCons (fC (.int 4)) (aCons (fC (.int 5)) aNil)))))))) aNil)))
/-! _law_method -/
omit [TabSet] in
@[simp] def b_law_method : MS := (sSeq s_law_method_0 (sSeq s_law_method_1 (sSeq s_law_method_2 (sSeq s_law_method_3 sNil))))
omit [TabSet] in
def m_law_method : MC := mOfC 6 1 b_law_method
omit [TabSet] in
theorem sc_law_method : FnScope ["_law_cup_here", "_law_bells", "_law_hunt", "_law_lead_here", "_law_at", "_law_turn"] ["_law_cup_here"] (defScope (topS 63)) := ⟨rfl, rfl, rfl, by decide +kernel, rfl, by decide +kernel, by decide +kernel⟩
theorem d_law_method (G : Env K mg) : DefOk P w K mg base "_law_method" 5 (spC m_law_method) :=
  have Sc := sc_law_method
  def_cup (k := 4) G.f_law_method Sc (by decide) fun cdv A outer s H E F fa hr =>
  (s_cons (s_set (i := 1) Sc.nd (e_callC (i := 0) ((d_law_some G).mono (by decide)) hr (a_cons (se_f (f_lst (a_cons e_int (a_cons e_int (a_cons e_int (a_cons e_int (a_cons e_int (a_cons e_int a_nil)))))))) a_nil)))
  (s_cons (s_set (i := 2) Sc.nd (e_tupOf (hm := G.n_tuple) (ha := (x_f (e_lc' (own := [("_law_at", 4)]) rfl Sc.nd (i_rg1 (hm := G.n_range) (ha := (e_mul e_int (e_var (i := 1))))) (blkOk_by (by rfl)) (fun s H C cl fp => (g_name (i := 4) Sc.nd)) (fun s H C cl fp => ts_nil) (fun s H C cl fp => (e_tupRg2 (hc := rfl) (hm := G.n_tuple) (he := rg2_2 (hm := G.n_range) (ha := (e_mod (e_var (i := 4)) e_int)) (hb := (e_sub (e_var (i := 1)) e_int))))))))))
  (s_cons (s_set (i := 3) Sc.nd (e_callC (i := 0) ((d_law_some G).mono (by decide)) hr (a_cons (se_f (f_lst (a_cons (e_var (i := 2)) (a_cons (e_slA (e_var (i := 2)) o_no (o_int (p_var (i := 1)))) (a_cons (e_slA (e_var (i := 2)) o_no (o_int p_int)) (a_cons (e_callC (i := 0) ((d_law_lead G).mono (by decide)) hr (a_cons (e_var (i := 1)) (a_cons e_int a_nil))) (a_cons (e_callC (i := 0) ((d_law_lead G).mono (by decide)) hr (a_cons (e_var (i := 1)) (a_cons e_int a_nil))) a_nil))))))) a_nil)))
  (s_cons (s_ret (e_tup (a_cons (e_var (i := 1)) (a_cons (e_var (i := 3)) (a_cons (e_tupOf (hm := G.n_tuple) (ha := (x_f (e_lc' (own := [("_law_turn", 5)]) rfl Sc.nd (i_rg1 (hm := G.n_range) (ha := (e_callC (i := 0) ((d_law_roll G).mono (by decide)) hr (a_cons e_int a_nil)))) (blkOk_by (by rfl)) (fun s H C cl fp => (g_name (i := 5) Sc.nd)) (fun s H C cl fp => ts_nil) (fun s H C cl fp => (e_callC (i := 0) ((d_law_change G).mono (by decide)) hr (a_cons (e_var (i := 1)) a_nil))))))) a_nil)))))
  s_nil))))
/-! _law_tour -/
omit [TabSet] in
@[simp] def s_law_tour_3 : MS := (sRet (fTup (aCons (fVar 4) (aCons (fVar 5) (aCons (fVar 6) (aCons (fVar 3) aNil))))))
omit [TabSet] in
@[simp] def s_law_tour_2 : MS := (sSet 3 (f1 uTup (fList (lComp (lRg (r1 (fVar 2))) (gN 7) tTrue (fIf (fCmpT cEq (fCallC 0 m_law_roll (aCons (fC (.int 2)) aNil)) (fC (.int 0))) (fCallC 0 m_law_roll (aCons (fOp opAdd (f1 uLen (fVar 6)) (fC (.int 1))) aNil)) (fC (.int 0))) [7]))))
omit [TabSet] in
@[simp] def s_law_tour_1 : MS := (sSet 2 (fCallC 0 m_law_roll (aCons (fOp opAdd (fVar 1) (fC (.int 1))) aNil)))
omit [TabSet] in
@[simp] def s_law_tour_0 : MS := (sAsg (gT (gsCons (gN 4) (gsCons (gN 5) (gsCons (gN 6) gsNil)))) (fCallC 0 m_law_method aNil))
/-! _law_tour -/
omit [TabSet] in
@[simp] def b_law_tour : MS := (sSeq s_law_tour_0 (sSeq s_law_tour_1 (sSeq s_law_tour_2 (sSeq s_law_tour_3 sNil))))
omit [TabSet] in
def m_law_tour : MC := mOfC 8 2 b_law_tour
omit [TabSet] in
theorem sc_law_tour : FnScope ["_law_cup_here", "_law_most", "_law_many", "_law_composition", "_law_bells", "_law_lead_here", "_law_calls", "_law_turn"] ["_law_cup_here", "_law_most"] (defScope (topS 64)) := ⟨rfl, rfl, rfl, by decide +kernel, rfl, by decide +kernel, by decide +kernel⟩
theorem d_law_tour (G : Env K mg) : DefOk P w K mg base "_law_tour" 6 (spC m_law_tour) :=
  have Sc := sc_law_tour
  def_cup (k := 5) G.f_law_tour Sc (by decide) fun cdv A outer s H E F fa hr =>
  (s_cons (s_asg (e_callC (i := 0) ((d_law_method G).mono (by decide)) hr a_nil) (g_tup rfl (gs_cons (g_name (i := 4) Sc.nd) (gs_cons (g_name (i := 5) Sc.nd) (gs_cons (g_name (i := 6) Sc.nd) gs_nil))) rfl rfl (gsCons_len (gsCons_len (gsCons_len gsNil_len)))))
  (s_cons (s_set (i := 2) Sc.nd (e_callC (i := 0) ((d_law_roll G).mono (by decide)) hr (a_cons (e_add (e_var (i := 1)) e_int) a_nil)))
  (s_cons (s_set (i := 3) Sc.nd (e_tupOf (hm := G.n_tuple) (ha := (x_f (e_lc' (own := [("_law_turn", 7)]) rfl Sc.nd (i_rg1 (hm := G.n_range) (ha := (e_var (i := 2)))) (blkOk_by (by rfl)) (fun s H C cl fp => (g_name (i := 7) Sc.nd)) (fun s H C cl fp => ts_nil) (fun s H C cl fp => (e_if (t_cmp (ck_eq hr) (e_callC (i := 0) ((d_law_roll G).mono (by decide)) hr (a_cons e_int a_nil)) e_int) (e_callC (i := 0) ((d_law_roll G).mono (by decide)) hr (a_cons (e_add (e_len (hm := G.n_len) (ha := (x_of (e_var (i := 6))))) e_int) a_nil)) e_int)))))))
  (s_cons (s_ret (e_tup (a_cons (e_var (i := 4)) (a_cons (e_var (i := 5)) (a_cons (e_var (i := 6)) (a_cons (e_var (i := 3)) a_nil))))))
  s_nil))))
/-! _law_ways -/
omit [TabSet] in
@[simp] def s_law_ways_0 : MS := (sRet (fOp opAdd (fList (lLst (aCons (fOp ixE (fVar 0) (fC (.int 1))) aNil))) (fList (lComp (iSeq (fOp ixE (fVar 0) (fC (.int 2)))) (gN 1) tTrue (fOp opAdd (fSlA (fOp ixE (fVar 0) (fC (.int 1))) oNo (oInt (pNeg (pC (.int 1))))) (fTup (aCons (fVar 1) aNil))) [1]))))
/-! _law_ways -/
omit [TabSet] in
@[simp] def b_law_ways : MS := (sSeq s_law_ways_0 sNil)
omit [TabSet] in
def m_law_ways : MF := mOf 2 1 b_law_ways
omit [TabSet] in
theorem sc_law_ways : FnScope ["_law_tour_here", "_law_call"] ["_law_tour_here"] (defScope (topS 65)) := ⟨rfl, rfl, rfl, by decide +kernel, rfl, by decide +kernel, by decide +kernel⟩
theorem d_law_ways (G : Env K mg) : DefOk P w K mg base "_law_ways" 1 (spF mg m_law_ways) :=
  have Sc := sc_law_ways
  def_pure (k := 0) G.f_law_ways Sc (by decide) fun cdv A outer s H E F fa hr =>
  (s_cons (s_ret (e_add (se_f (f_lst (a_cons (e_ixE hr (e_var (i := 0)) e_int) a_nil))) (se_f (e_lc' (own := [("_law_call", 1)]) rfl Sc.nd (i_seq (e_ixE hr (e_var (i := 0)) e_int)) (blkOk_by (by rfl)) (fun s H C cl fp => (g_name (i := 1) Sc.nd)) (fun s H C cl fp => ts_nil) (fun s H C cl fp => (e_add (e_slA (e_ixE hr (e_var (i := 0)) e_int) o_no (o_int (p_neg p_int))) (e_tup (a_cons (e_var (i := 1)) a_nil))))))))
  s_nil)
/-! _law_rows -/
omit [TabSet] in
@[simp] def s_law_rows_2 : MS := (sRet (fVar 1))
omit [TabSet] in
def l_law_rows_1 : MS := (sSeq (sSet 1 (fOp opAdd (fVar 1) (fCall m_law_rung (aCons (fOp ixE (fVar 1) (fNeg (fC (.int 1)))) (aCons (fOp ixE (fCall m_law_ways (aCons (fVar 0) aNil)) (fVar 2)) aNil)))))
  sNil)
omit [TabSet] in
@[simp] def s_law_rows_1 : MS := (sFor (iSeq (fOp ixE (fVar 0) (fC (.int 3)))) (gN 2)
  l_law_rows_1)
omit [TabSet] in
@[simp] def s_law_rows_0 : MS := (sSet 1 (fList (lLst (aCons (fCall m_law_rounds (aCons (fOp ixE (fVar 0) (fC (.int 0))) aNil)) aNil))))
/-! _law_rows -/
omit [TabSet] in
@[simp] def b_law_rows : MS := (sSeq s_law_rows_0 (sSeq s_law_rows_1 (sSeq s_law_rows_2 sNil)))
omit [TabSet] in
def m_law_rows : MF := mOf 3 1 b_law_rows
omit [TabSet] in
theorem sc_law_rows : FnScope ["_law_tour_here", "_law_found", "_law_way"] ["_law_tour_here"] (defScope (topS 66)) := ⟨rfl, rfl, rfl, by decide +kernel, rfl, by decide +kernel, by decide +kernel⟩
theorem d_law_rows (G : Env K mg) : DefOk P w K mg base "_law_rows" 3 (spF mg m_law_rows) :=
  have Sc := sc_law_rows
  def_pure (k := 2) G.f_law_rows Sc (by decide) fun cdv A outer s H E F fa hr =>
  (s_cons (s_set (i := 1) Sc.nd (se_f (f_lst (a_cons (e_call ((d_law_rounds G).mono (by decide)) hr (a_cons (e_ixE hr (e_var (i := 0)) e_int) a_nil)) a_nil))))
  (s_cons (s_for (passes_of rfl) rfl (i_seq (e_ixE hr (e_var (i := 0)) e_int)) (g_name (i := 2) Sc.nd)
  (s_cons (s_set (i := 1) Sc.nd (e_add (e_var (i := 1)) (e_call ((d_law_rung G).mono (by decide)) hr (a_cons (e_ixE hr (e_var (i := 1)) (e_neg e_int)) (a_cons (e_ixE hr (e_call ((d_law_ways G).mono (by decide)) hr (a_cons (e_var (i := 0)) a_nil)) (e_var (i := 2))) a_nil)))))
  s_nil))
  (s_cons (s_ret (e_var (i := 1)))
  s_nil)))
/-! _law_heads -/
omit [TabSet] in
@[simp] def s_law_heads_2 : MS := (sRetO 1)
omit [TabSet] in
def l_law_heads_1 : MS := (sSeq (sApp 1 (fCall m_law_led (aCons (fIxX (fPeek 1) (pNeg (pC (.int 1)))) (aCons (fOp ixE (fCall m_law_ways (aCons (fVar 0) aNil)) (fVar 2)) aNil))))
  sNil)
omit [TabSet] in
@[simp] def s_law_heads_1 : MS := (sFor (iSeq (fOp ixE (fVar 0) (fC (.int 3)))) (gN 2)
  l_law_heads_1)
omit [TabSet] in
@[simp] def s_law_heads_0 : MS := (sSetO 1 (lLst (aCons (fCall m_law_rounds (aCons (fOp ixE (fVar 0) (fC (.int 0))) aNil)) aNil)))
/-! _law_heads -/
omit [TabSet] in
@[simp] def b_law_heads : MS := (sSeq s_law_heads_0 (sSeq s_law_heads_1 (sSeq s_law_heads_2 sNil)))
omit [TabSet] in
def m_law_heads : MF := mOf 3 1 b_law_heads
omit [TabSet] in
theorem sc_law_heads : FnScope ["_law_tour_here", "_law_found", "_law_way"] ["_law_tour_here"] (defScope (topS 67)) := ⟨rfl, rfl, rfl, by decide +kernel, rfl, by decide +kernel, by decide +kernel⟩
theorem d_law_heads (G : Env K mg) : DefOk P w K mg base "_law_heads" 4 (spF mg m_law_heads) :=
  have Sc := sc_law_heads
  def_pure (k := 3) G.f_law_heads Sc (by decide) fun cdv A outer s H E F fa hr =>
  (s_cons (s_setO (i := 1) Sc.nd (f_lst (a_cons (e_call ((d_law_rounds G).mono (by decide)) hr (a_cons (e_ixE hr (e_var (i := 0)) e_int) a_nil)) a_nil)))
  (s_cons (s_for (passes_of rfl) rfl (i_seq (e_ixE hr (e_var (i := 0)) e_int)) (g_name (i := 2) Sc.nd)
  (s_cons (s_app (i := 1) (e_call ((d_law_led G).mono (by decide)) hr (a_cons (e_ixX (x_peek (i := 1)) (p_neg p_int)) (a_cons (e_ixE hr (e_call ((d_law_ways G).mono (by decide)) hr (a_cons (e_var (i := 0)) a_nil)) (e_var (i := 2))) a_nil))))
  s_nil))
  (s_cons (s_retO (i := 1))
  s_nil)))
/-! _law_odd_tours -/
omit [TabSet] in
@[simp] def s_law_odd_tours_6 : MS := (sGive 1 (sRet (fOp opAdd (fVar 1) (fList (lLst (aCons (fTup (aCons (fC (.bool true)) (aCons (fVar 3) (aCons (fVar 4) (aCons (fTup aNil) aNil))))) (aCons (fTup (aCons (fVar 2) (aCons (fVar 3) (aCons (fVar 4) (aCons (fTup (aCons (fNeg (fC (.int 1))) aNil)) aNil))))) (aCons (fTup (aCons (fVar 2) (aCons (fTup (aCons (fTup (aCons (fC (.int 0)) (aCons (fC (.int 0)) aNil))) aNil)) (aCons (fVar 4) (aCons (fTup aNil) aNil))))) aNil))))))))
omit [TabSet] in
def t_law_odd_tours_6 : MS := (sSeq s_law_odd_tours_6 sNil)
omit [TabSet] in
@[simp] def s_law_odd_tours_5 : MS := (sSetO 1 (lCatO 1 (fList (lLst (aCons (fTup (aCons (fVar 2) (aCons (fOp opMul (fVar 3) (fC (.int 25))) (aCons (fVar 4) (aCons (fTup aNil) aNil))))) (aCons (fTup (aCons (fVar 2) (aCons (fVar 3) (aCons (fOp opAdd (fOp opMul (fVar 4) (fC (.int 3))) (fOp opMul (fTup (aCons (fTup aNil) aNil)) (fC (.int 6)))) (aCons (fTup aNil) aNil))))) (aCons (fTup (aCons (fVar 2) (aCons (fVar 3) (aCons (fC .none) (aCons (fTup aNil) aNil))))) aNil)))))))
omit [TabSet] in
def t_law_odd_tours_5 : MS := (sSeq s_law_odd_tours_5 t_law_odd_tours_6)
omit [TabSet] in
@[simp] def s_law_odd_tours_4 : MS := (sSetO 1 (lCatO 1 (fList (lLst (aCons (fTup (aCons (fVar 2) (aCons (fVar 3) (aCons (fVar 4) (aCons (fList (lLst (aCons (fC (.int 0)) aNil))) aNil))))) (aCons (fTup (aCons (fVar 2) (aCons (fVar 3) (aCons (fVar 4) (aCons (fOp opMul (fTup (aCons (fC (.int 0)) aNil)) (fC (.int 41))) aNil))))) (aCons (fTup (aCons (fVar 2) (aCons (fVar 3) (aCons (fTup (aCons (fTup (aCons (fOp opSub (fVar 2) (fC (.int 1))) aNil)) aNil)) (aCons (fTup aNil) aNil))))) aNil)))))))
omit [TabSet] in
def t_law_odd_tours_4 : MS := (sSeq s_law_odd_tours_4 t_law_odd_tours_5)
omit [TabSet] in
@[simp] def s_law_odd_tours_3 : MS := (sApp 1 (fTup (aCons (fVar 2) (aCons (fVar 3) (aCons (fVar 4) (aCons (fTup (aCons (fC (.bool true)) aNil)) aNil))))))
omit [TabSet] in
def t_law_odd_tours_3 : MS := (sSeq s_law_odd_tours_3 t_law_odd_tours_4)
omit [TabSet] in
@[simp] def s_law_odd_tours_2 : MS := (sSetO 1 (lCatO 1 (fList (lLst (aCons (fTup (aCons (fVar 2) (aCons (fList (l1 uList (fVar 3))) (aCons (fVar 4) (aCons (fTup aNil) aNil))))) (aCons (fTup (aCons (fVar 2) (aCons (fVar 3) (aCons (fVar 4) (aCons (fTup (aCons (fOp opAdd (f1 uLen (fVar 4)) (fC (.int 1))) aNil)) aNil))))) aNil))))))
omit [TabSet] in
def t_law_odd_tours_2 : MS := (sSeq s_law_odd_tours_2 t_law_odd_tours_3)
omit [TabSet] in
@[simp] def s_law_odd_tours_1 : MS := (sSetO 1 (lLst (aCons (fC .none) (aCons (fSlA (fVar 0) oNo (oInt (pC (.int 3)))) (aCons (fList (l1 uList (fVar 0))) (aCons (fTup (aCons (fC (.int 7)) (aCons (fVar 3) (aCons (fVar 4) (aCons (fTup aNil) aNil))))) (aCons (fTup (aCons (fC (.int 1)) (aCons (fVar 3) (aCons (fTup aNil) (aCons (fTup aNil) aNil))))) (aCons (fTup (aCons (fVar 2) (aCons (fTup aNil) (aCons (fVar 4) (aCons (fTup aNil) aNil))))) aNil))))))))
omit [TabSet] in
def t_law_odd_tours_1 : MS := (sSeq s_law_odd_tours_1 t_law_odd_tours_2)
omit [TabSet] in
@[simp] def s_law_odd_tours_0 : MS := (sAsg (gT (gsCons (gN 2) (gsCons (gN 3) (gsCons (gN 4) (gsCons (gN 5) gsNil))))) (fVar 0))
/-! _law_odd_tours -/
omit [TabSet] in
@[simp] def b_law_odd_tours : MS := (sSeq s_law_odd_tours_0 t_law_odd_tours_1)
omit [TabSet] in
def m_law_odd_tours : MF := mOf 6 1 b_law_odd_tours
omit [TabSet] in
theorem sc_law_odd_tours : FnScope ["_law_tour_here", "_law_some_here", "_law_bells", "_law_lead_here", "_law_calls", "_law_composition"] ["_law_tour_here"] (defScope (topS 68)) := ⟨rfl, rfl, rfl, by decide +kernel, rfl, by decide +kernel, by decide +kernel⟩
theorem d_law_odd_tours (G : Env K mg) : DefOk P w K mg base "_law_odd_tours" 1 (spF mg m_law_odd_tours) :=
  have Sc := sc_law_odd_tours
  def_pure (k := 0) G.f_law_odd_tours Sc (by decide) fun cdv A outer s H E F fa hr =>
  (s_cons (s_asg (e_var (i := 0)) (g_tup rfl (gs_cons (g_name (i := 2) Sc.nd) (gs_cons (g_name (i := 3) Sc.nd) (gs_cons (g_name (i := 4) Sc.nd) (gs_cons (g_name (i := 5) Sc.nd) gs_nil)))) rfl rfl (gsCons_len (gsCons_len (gsCons_len (gsCons_len gsNil_len))))))
  (s_cons (s_setO (i := 1) Sc.nd (f_lst (a_cons e_non (a_cons (e_slA (e_var (i := 0)) o_no (o_int p_int)) (a_cons (se_f (f_listOf (hm := G.n_list) (ha := (x_of (e_var (i := 0)))))) (a_cons (e_tup (a_cons e_int (a_cons (e_var (i := 3)) (a_cons (e_var (i := 4)) (a_cons (e_tup a_nil) a_nil))))) (a_cons (e_tup (a_cons e_int (a_cons (e_var (i := 3)) (a_cons (e_tup a_nil) (a_cons (e_tup a_nil) a_nil))))) (a_cons (e_tup (a_cons (e_var (i := 2)) (a_cons (e_tup a_nil) (a_cons (e_var (i := 4)) (a_cons (e_tup a_nil) a_nil))))) a_nil))))))))
  (s_cons (s_setO (i := 1) Sc.nd (f_catO (i := 1) (se_f (f_lst (a_cons (e_tup (a_cons (e_var (i := 2)) (a_cons (se_f (f_listOf (hm := G.n_list) (ha := (x_of (e_var (i := 3)))))) (a_cons (e_var (i := 4)) (a_cons (e_tup a_nil) a_nil))))) (a_cons (e_tup (a_cons (e_var (i := 2)) (a_cons (e_var (i := 3)) (a_cons (e_var (i := 4)) (a_cons (e_tup (a_cons (e_add (e_len (hm := G.n_len) (ha := (x_of (e_var (i := 4))))) e_int) a_nil)) a_nil))))) a_nil))))))
  (s_cons (s_app (i := 1) (e_tup (a_cons (e_var (i := 2)) (a_cons (e_var (i := 3)) (a_cons (e_var (i := 4)) (a_cons (e_tup (a_cons e_bl a_nil)) a_nil))))))
  (s_cons (s_setO (i := 1) Sc.nd (f_catO (i := 1) (se_f (f_lst (a_cons (e_tup (a_cons (e_var (i := 2)) (a_cons (e_var (i := 3)) (a_cons (e_var (i := 4)) (a_cons (se_f (f_lst (a_cons e_int a_nil))) a_nil))))) (a_cons (e_tup (a_cons (e_var (i := 2)) (a_cons (e_var (i := 3)) (a_cons (e_var (i := 4)) (a_cons (e_mul (e_tup (a_cons e_int a_nil)) e_int) a_nil))))) (a_cons (e_tup (a_cons (e_var (i := 2)) (a_cons (e_var (i := 3)) (a_cons (e_tup (a_cons (e_tup (a_cons (e_sub (e_var (i := 2)) e_int) a_nil)) a_nil)) (a_cons (e_tup a_nil) a_nil))))) a_nil)))))))
  (s_cons (s_setO (i := 1) Sc.nd (f_catO (i := 1) (se_f (f_lst (a_cons (e_tup (a_cons (e_var (i := 2)) (a_cons (e_mul (e_var (i := 3)) e_int) (a_cons (e_var (i := 4)) (a_cons (e_tup a_nil) a_nil))))) (a_cons (e_tup (a_cons (e_var (i := 2)) (a_cons (e_var (i := 3)) (a_cons (e_add (e_mul (e_var (i := 4)) e_int) (e_mul (e_tup (a_cons (e_tup a_nil) a_nil)) e_int)) (a_cons (e_tup a_nil) a_nil))))) (a_cons (e_tup (a_cons (e_var (i := 2)) (a_cons (e_var (i := 3)) (a_cons e_non (a_cons (e_tup a_nil) a_nil))))) a_nil)))))))
  (s_cons (s_give (i := 1) (s_ret (e_add (e_var (i := 1)) (se_f (f_lst (a_cons (e_tup (a_cons e_bl (a_cons (e_var (i := 3)) (a_cons (e_var (i := 4)) (a_cons (e_tup a_nil) a_nil))))) (a_cons (e_tup (a_cons (e_var (i := 2)) (a_cons (e_var (i := 3)) (a_cons (e_var (i := 4)) (a_cons (e_tup (a_cons (e_neg e_int) a_nil)) a_nil))))) (a_cons (e_tup (a_cons (e_var (i := 2)) (a_cons (e_tup (a_cons (e_tup (a_cons e_int (a_cons e_int a_nil))) a_nil)) (a_cons (e_var (i := 4)) (a_cons (e_tup a_nil) a_nil))))) a_nil))))))))
  s_nil)))))))
/-! law -/
omit [TabSet] in
@[simp] def s_law_8 : MS := (sRet (fAndV (fCmp cEq (fCall m_tour_path (aCons (fOp opAdd (fVar 4) (fTup (aCons (fTup (aCons (fC (.int 0)) (aCons (fC (.int 0)) aNil))) aNil))) (aCons (fC (.int 2)) aNil))) (fList (lLst (aCons (fC (.int 2)) (aCons (fC (.int 2)) (aCons (fC (.int 1)) (aCons (fC (.int 0)) (aCons (fC (.int 0)) aNil)))))))) (fCmp cEq (fCall m_tour_heads (aCons (fOp opAdd (fVar 4) (fTup (aCons (fTup aNil) aNil))) aNil)) (fList (lLst (aCons (fTup (aCons (fC (.int 0)) (aCons (fC (.int 1)) (aCons (fC (.int 2)) aNil)))) aNil))))))
omit [TabSet] in
def t_law_8 : MS := (sSeq s_law_8 sNil)
omit [TabSet] in
@[simp] def s_law_7 : MS := (sIf (fOrT (fCmpT cNe (fCall m_tour_heads (aCons (fVar 5) aNil)) (fList (lLst (aCons (fTup (aCons (fC (.int 0)) (aCons (fC (.int 1)) (aCons (fC (.int 2)) (aCons (fC (.int 3)) aNil))))) (aCons (fTup (aCons (fC (.int 3)) (aCons (fC (.int 1)) (aCons (fC (.int 2)) (aCons (fC (.int 0)) aNil))))) (aCons (fTup (aCons (fC (.int 0)) (aCons (fC (.int 1)) (aCons (fC (.int 2)) (aCons (fC (.int 3)) aNil))))) aNil)))))) (fCmpT cNe (fCall m_tour_path (aCons (fOp opAdd (fVar 4) (fTup (aCons (fTup (aCons (fC (.int 1)) aNil)) aNil))) (aCons (fC (.int 2)) aNil))) (fList (lLst (aCons (fC (.int 2)) (aCons (fC (.int 2)) (aCons (fC (.int 2)) aNil)))))))
  (sSeq (sRet (fC (.bool false)))
  sNil)
  sNil)
omit [TabSet] in
def t_law_7 : MS := (sSeq s_law_7 t_law_8)
omit [TabSet] in
@[simp] def s_law_6 : MS := (sSet 5 (fTup (aCons (fC (.int 4)) (aCons (fTup (aCons (fTup (aCons (fC (.int 0)) (aCons (fC (.int 2)) aNil))) (aCons (fTup (aCons (fC (.int 1)) aNil)) (aCons (fTup (aCons (fC (.int 0)) (aCons (fC (.int 2)) aNil))) aNil)))) (aCons (fTup aNil) (aCons (fTup (aCons (fC (.int 0)) (aCons (fC (.int 0)) aNil))) aNil))))))
omit [TabSet] in
def t_law_6 : MS := (sSeq s_law_6 t_law_7)
omit [TabSet] in
@[simp] def s_law_5 : MS := (sIf (fOrT (fCmpT cNe (fCall m_tour_heads (aCons (fOp opAdd (fVar 4) (fTup (aCons (fTup (aCons (fC (.int 0)) (aCons (fC (.int 1)) aNil))) aNil))) aNil)) (fList (lLst (aCons (fTup (aCons (fC (.int 0)) (aCons (fC (.int 1)) (aCons (fC (.int 2)) aNil)))) (aCons (fTup (aCons (fC (.int 1)) (aCons (fC (.int 2)) (aCons (fC (.int 0)) aNil)))) (aCons (fTup (aCons (fC (.int 2)) (aCons (fC (.int 1)) (aCons (fC (.int 0)) aNil)))) aNil)))))) (fCmpT cNe (fCall m_tour_path (aCons (fOp opAdd (fVar 4) (fTup (aCons (fTup (aCons (fC (.int 0)) aNil)) aNil))) (aCons (fC (.int 0)) aNil))) (fList (lLst (aCons (fC (.int 0)) (aCons (fC (.int 1)) (aCons (fC (.int 2)) aNil)))))))
  (sSeq (sRet (fC (.bool false)))
  sNil)
  sNil)
omit [TabSet] in
def t_law_5 : MS := (sSeq s_law_5 t_law_6)
omit [TabSet] in
@[simp] def s_law_4 : MS := (sSet 4 (fTup (aCons (fC (.int 3)) (aCons (fTup (aCons (fTup (aCons (fC (.int 0)) aNil)) (aCons (fTup (aCons (fC (.int 1)) aNil)) aNil))) (aCons (fTup (aCons (fTup aNil) aNil)) aNil)))))
omit [TabSet] in
def t_law_4 : MS := (sSeq s_law_4 t_law_5)
omit [TabSet] in
def l_law_1 : MS := (sSeq (sIf (fCmpT cNe (fToldT ktlaw_try "other" kl_law_try tw_law_try (rCall m_tour_path (aCons (fVar 6) (aCons (fVar 3) aNil)))) (fC (.str "bell")))
  (sSeq (sRet (fC (.bool false)))
  sNil)
  sNil)
  sNil)
omit [TabSet] in
@[simp] def s_law_3 : MS := (sFor (iSeq (fList (lLst (aCons (fC .none) (aCons (fNeg (fC (.int 1))) (aCons (fOp ixE (fVar 6) (fC (.int 0))) (aCons (fC (.bool true)) (aCons (fC (.str "0")) aNil)))))))) (gN 3)
  l_law_1)
omit [TabSet] in
def t_law_3 : MS := (sSeq s_law_3 t_law_4)
omit [TabSet] in
def l_law_2 : MS := (sSeq (sIf (fOrT (fCmpT cIsN (fCall m_is_tour (aCons (fVar 3) aNil)) (fC (.bool false))) (fCmpT cNe (fToldT ktlaw_try "other" kl_law_try tw_law_try (rCall m_tour_heads (aCons (fVar 3) aNil))) (fC (.str "tour"))))
  (sSeq (sRet (fC (.bool false)))
  sNil)
  sNil)
  (sSeq (sIf (fCmpT cNe (fToldT ktlaw_try "other" kl_law_try tw_law_try (rCall m_tour_path (aCons (fVar 3) (aCons (fC (.int 0)) aNil)))) (fC (.str "tour")))
  (sSeq (sRet (fC (.bool false)))
  sNil)
  sNil)
  sNil))
omit [TabSet] in
@[simp] def s_law_2 : MS := (sFor (iSeq (fCall m_law_odd_tours (aCons (fVar 6) aNil))) (gN 3)
  l_law_2)
omit [TabSet] in
def t_law_2 : MS := (sSeq s_law_2 t_law_3)
omit [TabSet] in
def l_law_4 : MS := (sSeq (sIf (fNotT (fB (fCall m_law_like_r4 (aCons (fCall m_tour_path (aCons (fVar 6) (aCons (fVar 7) aNil))) (aCons (fList (lComp (iSeq (fVar 8)) (gN 10) tTrue (fIndexA (fVar 10) (fVar 7)) [10])) aNil)))))
  (sSeq (sRet (fC (.bool false)))
  sNil)
  sNil)
  sNil)
omit [TabSet] in
def l_law_3t3 : MS := (sSeq (sFor (lRg (r1 (fOp ixE (fVar 6) (fC (.int 0))))) (gN 7)
  l_law_4)
  sNil)
omit [TabSet] in
def l_law_3t2 : MS := (sSeq (sIf (fOrT (fCmpT cIsN (fCall m_is_tour (aCons (fVar 6) aNil)) (fC (.bool true))) (fNotT (fB (fCall m_law_like_r4 (aCons (fCall m_tour_heads (aCons (fVar 6) aNil)) (aCons (fVar 9) aNil))))))
  (sSeq (sRet (fC (.bool false)))
  sNil)
  sNil)
  l_law_3t3)
omit [TabSet] in
def l_law_3t1 : MS := (sSeq (sPar 8 9 (aCons (fCall m_law_rows (aCons (fVar 6) aNil)) (aCons (fCall m_law_heads (aCons (fVar 6) aNil)) aNil)))
  l_law_3t2)
omit [TabSet] in
def l_law_3 : MS := (sSeq (sSet 6 (fCallC 1 m_law_tour (aCons (fC (.int 8)) aNil)))
  l_law_3t1)
omit [TabSet] in
@[simp] def s_law_1 : MS := (sFor (lRg (r1 (fC (.int 3)))) (gN 2)
  l_law_3)
omit [TabSet] in
def t_law_1 : MS := (sSeq s_law_1 t_law_2)
omit [TabSet] in
@[simp] def s_law_0 : MS := (sSetO 1 (lCallO 0 m_law_cup))
/-! the law -/
omit [TabSet] in
@[simp] def b_law : MS := (sSeq s_law_0 t_law_1)
omit [TabSet] in
def m_law : List Int → Option D := mOfL 11 b_law
omit [TabSet] in
theorem sc_law : FnScope ["_law_script", "_law_cup_here", "_law_turn", "_law_odd", "_law_m", "_law_long", "_law_tour_here", "_law_bell", "_law_rows_here", "_law_heads_here", "_law_row"] ["_law_script"] (defScope (topS 69)) := ⟨rfl, rfl, rfl, by decide +kernel, rfl, by decide +kernel, by decide +kernel⟩
theorem d_law (G : Env K mg) {f c Pt : Addr} {oc : Value} {od an : Option Addr} {osl : Array (Option Value)} {kV doc pm ct : Value} (lk : K.lookup f = some ⟨oc, od, .func (PySem.W.fnOf "law" "law" (defArgs (topS 69)) (defBody (topS 69)) (defScope (topS 69)) .none kV doc pm an (.ref c) ct), osl⟩) (hcd : PySem.W.codeIn K (.ref c) "law" = true) (LA : LamAt base mg c Pt "law.<locals>.<lambda>") :
    FnOk P w K mg base (L2.CX P w) 12 f (PySem.W.fnOf "law" "law" (defArgs (topS 69)) (defBody (topS 69)) (defScope (topS 69)) .none kV doc pm an (.ref c) ct) ["_law_script"] (spL K m_law) :=
  have Sc := sc_law
  law_fn (k := 11) lk hcd Sc rfl (by decide) fun A outer s H E F t0 hr =>
  (s_cons (s_setO (i := 1) Sc.nd (f_callO (i := 0) ((d_law_cup G).mono (by decide)) hr))
  (s_cons (s_for (passes_of rfl) rfl (i_rg1 (hm := G.n_range) (ha := e_int)) (g_name (i := 2) Sc.nd)
  (s_cons (s_set (i := 6) Sc.nd (e_callC (i := 1) ((d_law_tour G).mono (by decide)) hr (a_cons e_int a_nil)))
  (s_cons (s_par (i := 8) (j := 9) rfl Sc.nd (a_cons (e_call ((d_law_rows G).mono (by decide)) hr (a_cons (e_var (i := 6)) a_nil)) (a_cons (e_call ((d_law_heads G).mono (by decide)) hr (a_cons (e_var (i := 6)) a_nil)) a_nil)) rfl)
  (s_cons (s_if (w_or (t_cmp ck_isn (e_call ((d_is_tour G).mono (by decide)) hr (a_cons (e_var (i := 6)) a_nil)) e_bl) (w_or1 (t_not (t_val (e_call ((d_law_like_r4 G).mono (by decide)) hr (a_cons (e_call ((d_tour_heads G).mono (by decide)) hr (a_cons (e_var (i := 6)) a_nil)) (a_cons (e_var (i := 9)) a_nil))))))).pt
  (s_cons (s_ret e_bl)
  s_nil)
  s_nil)
  (s_cons (s_for (passes_of rfl) rfl (i_rg1 (hm := G.n_range) (ha := (e_ixE hr (e_var (i := 6)) e_int))) (g_name (i := 7) Sc.nd)
  (s_cons (s_if (t_not (t_val (e_call ((d_law_like_r4 G).mono (by decide)) hr (a_cons (e_call ((d_tour_path G).mono (by decide)) hr (a_cons (e_var (i := 6)) (a_cons (e_var (i := 7)) a_nil))) (a_cons (se_f (e_lc' (own := [("_law_row", 10)]) rfl Sc.nd (i_seq (e_var (i := 8))) (blkOk_by (by rfl)) (fun s H C cl fp => (g_name (i := 10) Sc.nd)) (fun s H C cl fp => ts_nil) (fun s H C cl fp => (e_indexA hr (e_var (i := 10)) (e_var (i := 7)))))) a_nil)))))
  (s_cons (s_ret e_bl)
  s_nil)
  s_nil)
  s_nil))
  s_nil)))))
  (s_cons (s_for (passes_of rfl) rfl (i_seq (e_call ((d_law_odd_tours G).mono (by decide)) hr (a_cons (e_var (i := 6)) a_nil))) (g_name (i := 3) Sc.nd)
  (s_cons (s_if (w_or (t_cmp ck_isn (e_call ((d_is_tour G).mono (by decide)) hr (a_cons (e_var (i := 3)) a_nil)) e_bl) (w_or1 (t_cmp (ck_ne hr) (e_lamT t0 (kt_law_try G) G.f_law_try sc_law_try (t_law_try G hr) LA hr (fun A outer s H E f c' hr => r_call2 (takes_of rfl rfl rfl rfl) ((d_tour_heads G).mono (by decide)) hr (a_cons (e_var (i := 3)) a_nil))) e_str))).pt
  (s_cons (s_ret e_bl)
  s_nil)
  s_nil)
  (s_cons (s_if (t_cmp (ck_ne hr) (e_lamT t0 (kt_law_try G) G.f_law_try sc_law_try (t_law_try G hr) LA hr (fun A outer s H E f c' hr => r_call2 (takes_of rfl rfl rfl rfl) ((d_tour_path G).mono (by decide)) hr (a_cons (e_var (i := 3)) (a_cons e_int a_nil)))) e_str)
  (s_cons (s_ret e_bl)
  s_nil)
  s_nil)
  s_nil)))
  (s_cons (s_for (passes_of rfl) rfl (i_seq (se_f (f_lst (a_cons e_non (a_cons (e_neg e_int) (a_cons (e_ixE hr (e_var (i := 6)) e_int) (a_cons e_bl (a_cons e_str a_nil)))))))) (g_name (i := 3) Sc.nd)
  (s_cons (s_if (t_cmp (ck_ne hr) (e_lamT t0 (kt_law_try G) G.f_law_try sc_law_try (t_law_try G hr) LA hr (fun A outer s H E f c' hr => r_call2 (takes_of rfl rfl rfl rfl) ((d_tour_path G).mono (by decide)) hr (a_cons (e_var (i := 6)) (a_cons (e_var (i := 3)) a_nil)))) e_str)
  (s_cons (s_ret e_bl)
  s_nil)
  s_nil)
  s_nil))
  (s_cons (s_set (i := 4) Sc.nd (e_tup (a_cons e_int (a_cons (e_tup (a_cons (e_tup (a_cons e_int a_nil)) (a_cons (e_tup (a_cons e_int a_nil)) a_nil))) (a_cons (e_tup (a_cons (e_tup a_nil) a_nil)) a_nil)))))
  (s_cons (s_if (w_or (t_cmp (ck_ne hr) (e_call ((d_tour_heads G).mono (by decide)) hr (a_cons (e_add (e_var (i := 4)) (e_tup (a_cons (e_tup (a_cons e_int (a_cons e_int a_nil))) a_nil))) a_nil)) (se_f (f_lst (a_cons (e_tup (a_cons e_int (a_cons e_int (a_cons e_int a_nil)))) (a_cons (e_tup (a_cons e_int (a_cons e_int (a_cons e_int a_nil)))) (a_cons (e_tup (a_cons e_int (a_cons e_int (a_cons e_int a_nil)))) a_nil)))))) (w_or1 (t_cmp (ck_ne hr) (e_call ((d_tour_path G).mono (by decide)) hr (a_cons (e_add (e_var (i := 4)) (e_tup (a_cons (e_tup (a_cons e_int a_nil)) a_nil))) (a_cons e_int a_nil))) (se_f (f_lst (a_cons e_int (a_cons e_int (a_cons e_int a_nil)))))))).pt
  (s_cons (s_ret e_bl)
  s_nil)
  s_nil)
  (s_cons (s_set (i := 5) Sc.nd (e_tup (a_cons e_int (a_cons (e_tup (a_cons (e_tup (a_cons e_int (a_cons e_int a_nil))) (a_cons (e_tup (a_cons e_int a_nil)) (a_cons (e_tup (a_cons e_int (a_cons e_int a_nil))) a_nil)))) (a_cons (e_tup a_nil) (a_cons (e_tup (a_cons e_int (a_cons e_int a_nil))) a_nil))))))
  (s_cons (s_if (w_or (t_cmp (ck_ne hr) (e_call ((d_tour_heads G).mono (by decide)) hr (a_cons (e_var (i := 5)) a_nil)) (se_f (f_lst (a_cons (e_tup (a_cons e_int (a_cons e_int (a_cons e_int (a_cons e_int a_nil))))) (a_cons (e_tup (a_cons e_int (a_cons e_int (a_cons e_int (a_cons e_int a_nil))))) (a_cons (e_tup (a_cons e_int (a_cons e_int (a_cons e_int (a_cons e_int a_nil))))) a_nil)))))) (w_or1 (t_cmp (ck_ne hr) (e_call ((d_tour_path G).mono (by decide)) hr (a_cons (e_add (e_var (i := 4)) (e_tup (a_cons (e_tup (a_cons e_int a_nil)) a_nil))) (a_cons e_int a_nil))) (se_f (f_lst (a_cons e_int (a_cons e_int (a_cons e_int a_nil)))))))).pt
  (s_cons (s_ret e_bl)
  s_nil)
  s_nil)
  (s_cons (s_ret (e_and (e_cmp (ck_eq hr) (e_call ((d_tour_path G).mono (by decide)) hr (a_cons (e_add (e_var (i := 4)) (e_tup (a_cons (e_tup (a_cons e_int (a_cons e_int a_nil))) a_nil))) (a_cons e_int a_nil))) (se_f (f_lst (a_cons e_int (a_cons e_int (a_cons e_int (a_cons e_int (a_cons e_int a_nil)))))))) (e_one (e_cmp (ck_eq hr) (e_call ((d_tour_heads G).mono (by decide)) hr (a_cons (e_add (e_var (i := 4)) (e_tup (a_cons (e_tup a_nil) a_nil))) a_nil)) (se_f (f_lst (a_cons (e_tup (a_cons e_int (a_cons e_int (a_cons e_int a_nil)))) a_nil)))))))
  s_nil)))))))))
end K70

namespace K70
open PySem PySem.Spec PyProof.Rows L2 Sd
/-! ### comprehensions -/
theorem cRun_map {g : MG} {tf : MT} {f : M} {vs : List Nat} {δ0 : DE} (o : D → D) : ∀ ds : List D, (∀ d ∈ ds, ∃ δ1 δ2 δ3, g d δ0 = some δ1 ∧ tf δ1 = some (true, δ2) ∧ f δ2 = some (o d, δ3) ∧ wipeD δ3 vs = δ0) → cRun g tf f vs ds δ0 = some (ds.map o, δ0)
  | [], _ => rfl
  | d :: r, h => by
    obtain ⟨δ1, δ2, δ3, h1, h2, h3, h4⟩ := h d (List.mem_cons_self ..)
    have ih := cRun_map o r fun d hd => h d (List.mem_cons_of_mem _ hd)
    simp only [cRun, h1, h2, h3, h4, ih, List.map_cons]
theorem cRun_filter {g : MG} {tf : MT} {f : M} {vs : List Nat} {δ0 : DE} (p : D → Bool) (o : D → D) : ∀ ds : List D, (∀ d ∈ ds, ∃ δ1 δ2, g d δ0 = some δ1 ∧ tf δ1 = some (p d, δ2) ∧ (p d = true → ∃ δ3, f δ2 = some (o d, δ3) ∧ wipeD δ3 vs = δ0) ∧ (p d = false → wipeD δ2 vs = δ0)) → cRun g tf f vs ds δ0 = some ((ds.filter p).map o, δ0)
  | [], _ => rfl
  | d :: r, h => by
    obtain ⟨δ1, δ2, h1, h2, h3, h4⟩ := h d (List.mem_cons_self ..)
    have ih := cRun_filter p o r fun d hd => h d (List.mem_cons_of_mem _ hd)
    cases hp : p d with
    | true =>
      obtain ⟨δ3, h5, h6⟩ := h3 hp
      rw [hp] at h2
      simp only [cRun, h1, h2, h5, h6, ih, List.filter_cons, hp, if_true, List.map_cons]
    | false =>
      have h5 := h4 hp
      rw [hp] at h2
      simp only [cRun, h1, h2, h5, ih, List.filter_cons, hp, if_neg Bool.false_ne_true]
theorem lComp_map {it : MA} {g : MG} {tf : MT} {f : M} {vs : List Nat} {δ δ1 δ0 : DE} {ds : List D} (o : D → D) (hi : it δ = some (ds, δ1)) (hn : noOwn vs δ1 = true) (hl : ds.length ≤ 100000) (hw : wipeD δ1 vs = δ0)
    (h : ∀ d ∈ ds, ∃ δ1 δ2 δ3, g d δ0 = some δ1 ∧ tf δ1 = some (true, δ2) ∧ f δ2 = some (o d, δ3) ∧ wipeD δ3 vs = δ0) : lComp it g tf f vs δ = some (ds.map o, mergeD δ1 δ0 vs) := by
  subst hw
  simp only [lComp, hi, hn, hl, and_self, if_true, cRun_map o ds h]
theorem lComp_filter {it : MA} {g : MG} {tf : MT} {f : M} {vs : List Nat} {δ δ1 δ0 : DE} {ds : List D} (p : D → Bool) (o : D → D) (hi : it δ = some (ds, δ1)) (hn : noOwn vs δ1 = true) (hl : ds.length ≤ 100000) (hw : wipeD δ1 vs = δ0)
    (h : ∀ d ∈ ds, ∃ δ1 δ2, g d δ0 = some δ1 ∧ tf δ1 = some (p d, δ2) ∧ (p d = true → ∃ δ3, f δ2 = some (o d, δ3) ∧ wipeD δ3 vs = δ0) ∧ (p d = false → wipeD δ2 vs = δ0)) : lComp it g tf f vs δ = some ((ds.filter p).map o, mergeD δ1 δ0 vs) := by
  subst hw
  simp only [lComp, hi, hn, hl, and_self, if_true, cRun_filter p o ds h]
/-! ### whole numbers in a range -/
def isIx (n : Int) : D → Bool
  | .int i => decide (0 ≤ i) && decide (i < n)
  | _ => false
theorem is_integer_int (i : Int) : m_is_integer [.int i] = some (.ret (.bool true)) := by rfl
theorem is_index_eq (d : D) (n : Int) (hd : ∀ kvs, d ≠ .dict kvs) : m_is_index [d, .int n] = some (.ret (.bool (isIx n d))) := by
  cases d with
  | int i =>
    by_cases h : 0 ≤ i
    · simp [m_is_index, mOf, b_is_index, s_is_index_0, sSeq, sRet, fAndV, fCall, aCons, aNil, fVar, is_integer_int, truth, fChain, fC, cLe, cLt, isIx, h]
    · simp [m_is_index, mOf, b_is_index, s_is_index_0, sSeq, sRet, fAndV, fCall, aCons, aNil, fVar, is_integer_int, truth, fChain, fC, cLe, cLt, isIx, h]
  | dict kvs => exact absurd rfl (hd kvs)
  | _ => rfl
def ND0 (d : D) : Prop := ∀ kvs, d ≠ .dict kvs
theorem bools_map (f : D → Bool) : ∀ ds : List D, boolsD (ds.map fun d => .bool (f d)) = some (ds.map f)
  | [] => rfl
  | d :: r => by
    rw [List.map_cons, List.map_cons]
    simp only [boolsD, bools_map f r, Option.map_some]
theorem uAll_map (f : D → Bool) (ds : List D) : uAll (.list (ds.map fun d => .bool (f d))) = some (.bool (ds.all f)) := by
  simp only [uAll, bools_map, Option.map_some, List.all_map]
  rfl
theorem isT (ds : List D) : uIs "tuple" (.tuple ds) = some (.bool true) := by rfl
theorem isT_int (i : Int) : uIs "tuple" (.int i) = some (.bool false) := by rfl
def areIx (n : Int) : D → Bool
  | .tuple ds => ds.all (isIx n)
  | _ => false
def ND1 (d : D) : Prop := ND0 d ∧ ∀ ds, d = .tuple ds → ds.length ≤ 100000 ∧ ∀ e ∈ ds, ND0 e
theorem are_indices_eq (v : D) (n : Int) (hv : ND1 v) : m_are_indices [v, .int n] = some (.ret (.bool (areIx n v))) := by
  cases v with
  | tuple ds =>
    obtain ⟨hl, he⟩ := hv.2 ds rfl
    have hc : lComp (iSeq (fVar 0)) (gN 2) tTrue (fCall m_is_index (aCons (fVar 2) (aCons (fVar 1) aNil))) [2] [.sh (.tuple ds), .sh (.int n), .no] = some (ds.map fun d => .bool (isIx n d), [.sh (.tuple ds), .sh (.int n), .no]) :=
      lComp_map (δ1 := [.sh (.tuple ds), .sh (.int n), .no]) (δ0 := [.sh (.tuple ds), .sh (.int n), .no]) _ rfl rfl hl rfl fun d hd =>
        ⟨[.sh (.tuple ds), .sh (.int n), .sh d], [.sh (.tuple ds), .sh (.int n), .sh d], [.sh (.tuple ds), .sh (.int n), .sh d], rfl, rfl, by simp [fCall, aCons, aNil, fVar, is_index_eq d n (he d hd)], rfl⟩
    simp [m_are_indices, mOf, b_are_indices, s_are_indices_0, sSeq, sRet, fAndV, f1, fVar, isT, fList, hc, uAll_map, areIx]
  | dict kvs => exact absurd rfl (hv.1 kvs)
  | _ => rfl
/-! ### changes -/
def spaced : List D → Bool
  | .int i :: .int j :: r => decide (i + 1 < j) && spaced (.int j :: r)
  | _ => true
def couldCh (b : Int) : D → Bool
  | .tuple ds => ds.all (isIx (b - 1)) && spaced ds
  | _ => false
def zipW (f : D → D → D) : List D → List D → List D
  | x :: xs, y :: ys => f x y :: zipW f xs ys
  | _, _ => []
def ltP1 : D → D
  | .dict [(.none, .none), (.none, .list [.int i, .int j])] => .bool (decide (i + 1 < j))
  | _ => .none
theorem isIx_int {n : Int} {d : D} (h : isIx n d = true) : ∃ i, d = .int i := by
  cases d <;> first | exact ⟨_, rfl⟩ | cases h
theorem zip_mem : ∀ {xs ys : List D} {d : D}, d ∈ zipD xs ys → ∃ x y, x ∈ xs ∧ y ∈ ys ∧ d = wP [x, y]
  | [], _, _, h => by cases h
  | _ :: _, [], _, h => by cases h
  | x :: xs, y :: ys, d, h => by
    rcases List.mem_cons.mp h with rfl | h
    · exact ⟨x, y, List.mem_cons_self .., List.mem_cons_self .., rfl⟩
    · obtain ⟨a, b, h1, h2, h3⟩ := zip_mem h
      exact ⟨a, b, List.mem_cons_of_mem _ h1, List.mem_cons_of_mem _ h2, h3⟩
theorem zip_spaced : ∀ ns : List Int, uAll (.list ((zipD (ns.map .int) ((ns.map PyData.int).drop 1)).map ltP1)) = some (.bool (spaced (ns.map .int)))
  | [] => rfl
  | [n] => rfl
  | n :: m :: r => by
    have ih := zip_spaced (m :: r)
    have e : ltP1 (wP [.int n, .int m]) = .bool (decide (n + 1 < m)) := rfl
    simp only [List.map_cons, List.drop_succ_cons, List.drop_zero, zipD, e, uAll, boolsD, spaced] at ih ⊢
    cases hb : boolsD (List.map ltP1 (zipD (PyData.int m :: List.map PyData.int r) (List.map PyData.int r))) with
    | none =>
      rw [hb] at ih
      cases ih
    | some bs =>
      rw [hb] at ih
      simp only [Option.map_some, Option.some.injEq, PyData.bool.injEq] at ih
      simp only [Option.map_some, List.all_cons, ih]
theorem cut1 (ds : List D) : Sd.cutD ds (some 1) none = ds.drop 1 := by
  unfold Sd.cutD
  cases ds with
  | nil => rfl
  | cons d r =>
    have e1 : HT.sIx (d :: r).length 0 (some 1) = 1 := by
      show (if (1 : Int) < 0 then ((1 : Int) + ((d :: r).length : Int)).toNat else min (1 : Int).toNat (d :: r).length) = 1
      rw [if_neg (by omega)]
      simp only [List.length_cons]
      omega
    have e2 : HT.sIx (d :: r).length (d :: r).length none = (d :: r).length := rfl
    rw [e1, e2]
    exact List.take_of_length_le (by rw [List.length_drop]; exact Nat.le_refl _)
theorem all_ints {n : Int} : ∀ {ds : List D}, ds.all (isIx n) = true → ∃ ns : List Int, ds = ns.map .int ∧ ∀ i ∈ ns, 0 ≤ i ∧ i < n
  | [], _ => ⟨[], rfl, fun i h => by cases h⟩
  | d :: r, h => by
    rw [List.all_cons, Bool.and_eq_true] at h
    obtain ⟨ns, e, hb⟩ := all_ints h.2
    obtain ⟨i, rfl⟩ := isIx_int h.1
    have hi : 0 ≤ i ∧ i < n := by
      have := h.1
      simp only [isIx, Bool.and_eq_true, decide_eq_true_eq] at this
      exact this
    exact ⟨i :: ns, by rw [e]; rfl, fun j hj => (List.mem_cons.mp hj).elim (fun e => by rw [e]; exact hi) (hb j)⟩
theorem zipD_len' : ∀ xs ys : List D, (zipD xs ys).length = min xs.length ys.length
  | [], ys => by simp [zipD]
  | _ :: _, [] => by simp [zipD]
  | x :: xs, y :: ys => by
    simp only [zipD, List.length_cons, zipD_len' xs ys]
    omega
theorem zip_len (xs ys : List D) : (zipD xs ys).length ≤ xs.length := by
  rw [zipD_len' xs ys]
  omega
theorem could_change_eq (b : Int) (v : D) (hv : ND1 v) : m_could_change [.int b, v] = some (.ret (.bool (couldCh b v))) := by
  have ha := are_indices_eq v (b - 1) hv
  cases hx : areIx (b - 1) v with
  | false =>
    have e : couldCh b v = false := by
      cases v <;> first | rfl | skip
      simp only [couldCh]
      have hx' : List.all _ (isIx (b - 1)) = false := hx
      rw [hx']
      rfl
    rw [hx] at ha
    simp [m_could_change, mOf, b_could_change, s_could_change_0, s_could_change_1, sSeq, sIf, sRet, fNotT, fB, fCall, aCons, aNil, fVar, fOp, opSub, fC, ha, e]
  | true =>
    cases v with
    | tuple ds =>
      obtain ⟨ns, rfl, hb⟩ := all_ints (show ds.all (isIx (b - 1)) = true from hx)
      obtain ⟨hl, _⟩ := hv.2 _ rfl
      have hz : iZip2 (fVar 1) (fSlA (fVar 1) (oInt (pC (.int 1))) oNo) [.sh (.int b), .sh (.tuple (ns.map .int)), .no, .no] = some (zipD (ns.map .int) ((ns.map PyData.int).drop 1), [.sh (.int b), .sh (.tuple (ns.map .int)), .no, .no]) := by
        rw [← cut1]
        rfl
      have hc : lComp (iZip2 (fVar 1) (fSlA (fVar 1) (oInt (pC (.int 1))) oNo)) (gT (gsCons (gN 2) (gsCons (gN 3) gsNil))) tTrue (fCmp cLt (fOp opAdd (fVar 2) (fC (.int 1))) (fVar 3)) [2, 3] [.sh (.int b), .sh (.tuple (ns.map .int)), .no, .no] =
          some ((zipD (ns.map .int) ((ns.map PyData.int).drop 1)).map ltP1, [.sh (.int b), .sh (.tuple (ns.map .int)), .no, .no]) :=
        lComp_map (δ1 := [.sh (.int b), .sh (.tuple (ns.map .int)), .no, .no]) (δ0 := [.sh (.int b), .sh (.tuple (ns.map .int)), .no, .no]) ltP1 hz rfl (Nat.le_trans (zip_len _ _) hl) rfl fun d hd => by
          obtain ⟨x, y, h1, h2, rfl⟩ := zip_mem hd
          obtain ⟨i, _, rfl⟩ := List.mem_map.mp h1
          obtain ⟨j, _, rfl⟩ := List.mem_map.mp (List.mem_of_mem_drop h2)
          exact ⟨[.sh (.int b), .sh (.tuple (ns.map .int)), .sh (.int i), .sh (.int j)], [.sh (.int b), .sh (.tuple (ns.map .int)), .sh (.int i), .sh (.int j)], [.sh (.int b), .sh (.tuple (ns.map .int)), .sh (.int i), .sh (.int j)], rfl, rfl, rfl, rfl⟩
      have e : couldCh b (.tuple (ns.map .int)) = spaced (ns.map .int) := by
        show (List.all _ (isIx (b - 1)) && _) = _
        rw [show (List.map PyData.int ns).all (isIx (b - 1)) = true from hx, Bool.true_and]
      rw [hx] at ha
      have hu := zip_spaced ns
      rw [List.drop_one] at hu hc
      simp [m_could_change, mOf, b_could_change, s_could_change_0, s_could_change_1, sSeq, sIf, sRet, fNotT, fB, fCall, aCons, aNil, fVar, fOp, opSub, fC, ha, e, f1, fList, sNil, hc, hu]
    | _ => cases hx
/-! ### the law's own checks -/
theorem shaped_ones : ∀ l : List D, SeqAt.shaped (.list (l.map fun _ => .int 1)) = true
  | [] => rfl
  | _ :: r => shaped_ones r
theorem eq_ones (l : List D) : cEq (.list (l.map fun _ => .int 1)) (.list []) = some l.isEmpty := by
  unfold cEq
  rw [if_pos ⟨shaped_ones l, rfl⟩]
  cases l <;> rfl
theorem none_bad (p : D → Bool) : ∀ ds : List D, (ds.filter p).isEmpty = ds.all fun d => !p d
  | [] => rfl
  | d :: r => by
    rw [List.filter_cons, List.all_cons, ← none_bad p r]
    cases p d <;> simp
def isWh (lo hi : Int) : D → Bool
  | .int i => decide (lo ≤ i) && decide (i ≤ hi)
  | _ => false
def areWh (lo hi : Int) : D → Bool
  | .tuple ds => ds.all (isWh lo hi)
  | _ => false
theorem bad_eq (lo hi : Int) (v d : D) (hd : ND0 d) : fOrT (fB (f1 (uIs "bool") (fVar 3))) (fOrT (fNotT (fB (f1 (uIs "int") (fVar 3)))) (fNotT (fChainT cLe cLe (fVar 1) (fVar 3) (fVar 2)))) [.sh v, .sh (.int lo), .sh (.int hi), .sh d] =
    some (!isWh lo hi d, [.sh v, .sh (.int lo), .sh (.int hi), .sh d]) := by
  cases d with
  | int i =>
    have e1 : uIs "bool" (.int i) = some (.bool false) := by rfl
    have e2 : uIs "int" (.int i) = some (.bool true) := by rfl
    by_cases h : lo ≤ i
    · by_cases h2 : i ≤ hi
      · simp [fOrT, fB, f1, fVar, e1, e2, fNotT, fChainT, fChain, cLe, isWh, h, h2]
      · simp [fOrT, fB, f1, fVar, e1, e2, fNotT, fChainT, fChain, cLe, isWh, h, h2]
    · simp [fOrT, fB, f1, fVar, e1, e2, fNotT, fChainT, fChain, cLe, isWh, h]
  | dict kvs => exact absurd rfl (hd kvs)
  | _ => rfl
theorem at_int {ns : List Int} {k : Nat} (h : k < ns.length) : ixD (.tuple (ns.map .int)) (.int (k : Nat)) = some (.int (ns.getD k 0)) := by
  show atI (ns.map PyData.int) ((k : Nat) : Int) = _
  refine atI_nat ?_
  rw [List.getElem?_map, List.getElem?_eq_getElem h, List.getD_eq_getElem?_getD, List.getElem?_eq_getElem h]
  rfl
def badAt (ns : List Int) : D → Bool
  | .int k => decide (ns.getD k.toNat 0 < ns.getD (k.toNat - 1) 0 + 2)
  | _ => false
theorem spaced_range : ∀ ns : List Int, ((List.range (ns.length - 1)).all fun i => !decide (ns.getD (1 + i) 0 < ns.getD i 0 + 2)) = spaced (ns.map .int)
  | [] => rfl
  | [n] => rfl
  | n :: m :: r => by
    have ih := spaced_range (m :: r)
    have e : (n :: m :: r).length - 1 = r.length + 1 := by simp
    have e' : (m :: r).length - 1 = r.length := by simp
    rw [e'] at ih
    rw [e, List.range_succ_eq_map, List.all_cons, List.all_map]
    simp only [List.map_cons, spaced]
    congr 1
    · by_cases h : n + 1 < m
      · have h2 : ¬ (m < n + 2) := by omega
        simp [h, h2]
      · have h2 : m < n + 2 := by omega
        simp [h, h2]
theorem bad_range (ns : List Int) : ((rgD 1 (ns.length : Nat)).filter (badAt ns)).isEmpty = spaced (ns.map .int) := by
  rw [none_bad, ← spaced_range]
  unfold rgD
  rw [List.all_map]
  have e : ((ns.length : Int) - 1).toNat = ns.length - 1 := by omega
  rw [e]
  congr 1
  funext i
  show (!badAt ns (.int (1 + (i : Nat)))) = _
  have e1 : (1 + (i : Int)).toNat = 1 + i := by omega
  have e2 : 1 + i - 1 = i := by omega
  simp only [badAt, e1, e2]
def isCh (b : Int) : D → Bool
  | .tuple ds => ds.all (isWh 0 (b - 2)) && spaced ds
  | _ => false
theorem wh_ints {lo hi : Int} : ∀ {ds : List D}, ds.all (isWh lo hi) = true → ∃ ns : List Int, ds = ns.map .int
  | [], _ => ⟨[], rfl⟩
  | d :: r, h => by
    rw [List.all_cons, Bool.and_eq_true] at h
    obtain ⟨ns, e⟩ := wh_ints h.2
    have hd := h.1
    cases d <;> first | cases hd | skip
    rename_i i
    exact ⟨i :: ns, by rw [e]; rfl⟩
/-! ### the two say the same -/
theorem ch_same (b : Int) (d : D) : couldCh b d = isCh b d := by
  cases d <;> first | rfl | skip
  rename_i ds
  show (ds.all (isIx (b - 1)) && spaced ds) = (ds.all (isWh 0 (b - 2)) && spaced ds)
  congr 1
  congr 1
  funext d
  cases d <;> first | rfl | skip
  rename_i i
  show (decide (0 ≤ i) && decide (i < b - 1)) = (decide (0 ≤ i) && decide (i ≤ b - 2))
  congr 1
  exact decide_eq_decide.mpr (by omega)
/-! ### leads -/
def ND2 (d : D) : Prop := ND0 d ∧ ∀ ds, d = .tuple ds → ds.length ≤ 100000 ∧ ∀ e ∈ ds, ND1 e
def couldLead (b : Int) : D → Bool
  | .tuple ds => decide (1 ≤ ds.length) && decide (ds.length ≤ 24) && ds.all (couldCh b)
  | _ => false
theorem could_lead_eq (b : Int) (v : D) (hv : ND2 v) : m_could_lead [.int b, v] = some (.ret (.bool (couldLead b v))) := by
  cases v with
  | tuple ds =>
    obtain ⟨hl, he⟩ := hv.2 ds rfl
    have hc : lComp (iSeq (fVar 1)) (gN 2) tTrue (fCall m_could_change (aCons (fVar 0) (aCons (fVar 2) aNil))) [2] [.sh (.int b), .sh (.tuple ds), .no] = some (ds.map fun d => .bool (couldCh b d), [.sh (.int b), .sh (.tuple ds), .no]) :=
      lComp_map (δ1 := [.sh (.int b), .sh (.tuple ds), .no]) (δ0 := [.sh (.int b), .sh (.tuple ds), .no]) _ rfl rfl hl rfl fun d hd =>
        ⟨[.sh (.int b), .sh (.tuple ds), .sh d], [.sh (.int b), .sh (.tuple ds), .sh d], [.sh (.int b), .sh (.tuple ds), .sh d], rfl, rfl, by simp [fCall, aCons, aNil, fVar, could_change_eq b d (he d hd)], rfl⟩
    by_cases h1 : 1 ≤ ds.length
    · by_cases h2 : ds.length ≤ 24
      · have k1 : (1 : Int) ≤ (ds.length : Int) := by omega
        have k2 : (ds.length : Int) ≤ 24 := by omega
        simp [m_could_lead, mOf, b_could_lead, s_could_lead_0, s_could_lead_1, sSeq, sIf, sRet, fOrT, fNotT, fB, f1, fVar, isT, fChainT, fChain, fC, uLen, cLe, k1, k2, sNil, fList, hc, uAll_map, couldLead, h1, h2]
      · have k1 : (1 : Int) ≤ (ds.length : Int) := by omega
        have k2 : ¬ (ds.length : Int) ≤ 24 := by omega
        simp [m_could_lead, mOf, b_could_lead, s_could_lead_0, s_could_lead_1, sSeq, sIf, sRet, fOrT, fNotT, fB, f1, fVar, isT, fChainT, fChain, fC, uLen, cLe, k1, k2, couldLead, h1, h2]
    · have k1 : ¬ (1 : Int) ≤ (ds.length : Int) := by omega
      simp [m_could_lead, mOf, b_could_lead, s_could_lead_0, s_could_lead_1, sSeq, sIf, sRet, fOrT, fNotT, fB, f1, fVar, isT, fChainT, fChain, fC, uLen, cLe, k1, couldLead, h1]
  | dict kvs => exact absurd rfl (hv.1 kvs)
  | _ => rfl
/-! ### rows -/
def rnds (b : Nat) : List Int := (List.range b).map fun (i : Nat) => (i : Int)
def isB (b : Nat) : Prop := b = 2 ∨ b = 3 ∨ b = 4 ∨ b = 5 ∨ b = 6
theorem rnds_len (b : Nat) : (rnds b).length = b := by
  unfold rnds
  rw [List.length_map, List.length_range]
theorem rnds_mem {b : Nat} {i : Int} (h : i ∈ rnds b) : 0 ≤ i ∧ i < b := by
  obtain ⟨k, hk, rfl⟩ := List.mem_map.mp h
  have := List.mem_range.mp hk
  omega
theorem nd_int (i : Int) : ND0 (.int i) := fun _ h => by cases h
theorem nd1_tI (ns : List Int) (h : ns.length ≤ 100000) : ND1 (tI ns) := by
  refine ⟨fun _ h => (by cases h), fun ds e => ?_⟩
  cases e
  refine ⟨by rw [List.length_map]; exact h, fun d hd => ?_⟩
  obtain ⟨i, _, rfl⟩ := List.mem_map.mp hd
  exact nd_int i
theorem all_ix {n : Int} : ∀ {ns : List Int}, (∀ i ∈ ns, 0 ≤ i ∧ i < n) → (ns.map PyData.int).all (isIx n) = true
  | [], _ => rfl
  | i :: r, h => by
    rw [List.map_cons, List.all_cons, all_ix fun j hj => h j (List.mem_cons_of_mem _ hj)]
    have := h i (List.mem_cons_self ..)
    simp [isIx, this.1, this.2]
theorem rnds_sorted (b : Nat) : (rnds b).Pairwise (leI · ·) := by
  unfold rnds
  refine List.pairwise_map.mpr ((List.pairwise_lt_range (n := b)).imp fun h => ?_)
  exact decide_eq_true (by omega)
theorem ints_ok : ∀ ns : List Int, intsD (ns.map PyData.int) = some ns
  | [] => rfl
  | n :: r => by
    rw [List.map_cons]
    simp only [intsD, ints_ok r, Option.map_some]
theorem rg_rnds {b : Nat} (hb : isB b) : rgD 0 (b : Nat) = (rnds b).map .int := by
  rcases hb with rfl | rfl | rfl | rfl | rfl <;> rfl
theorem eq_rnds {b : Nat} (hb : isB b) : cEq (.list ((rnds b).map .int)) (.list ((rnds b).map .int)) = some true := by
  rcases hb with rfl | rfl | rfl | rfl | rfl <;> rfl
theorem rounds_ok {b : Nat} (hb : isB b) : m_rounds_of [.int (b : Nat)] = some (.ret (tI (rnds b))) ∧ m_law_rounds [.int (b : Nat)] = some (.ret (tI (rnds b))) := by
  rcases hb with rfl | rfl | rfl | rfl | rfl <;> exact ⟨by rfl, by rfl⟩
/-! ### what a change does -/
def swp {α : Type} : List α → Nat → List α
  | [], _ => []
  | x :: r, 0 => match r with
    | y :: s => y :: x :: s
    | [] => [x]
  | x :: r, p + 1 => x :: swp r p
def act {α : Type} (l : List α) : List Int → List α
  | [] => l
  | p :: c => act (swp l p.toNat) c
theorem swp_map {α β : Type} (f : α → β) : ∀ (l : List α) (p : Nat), swp (l.map f) p = (swp l p).map f
  | [], _ => rfl
  | [_], 0 => rfl
  | _ :: _ :: _, 0 => rfl
  | x :: r, p + 1 => by
    show f x :: swp (r.map f) p = _
    rw [swp_map f r p]
    rfl
theorem swp_perm {α : Type} : ∀ (l : List α) (p : Nat), (swp l p).Perm l
  | [], _ => .refl _
  | [_], 0 => .refl _
  | x :: y :: r, 0 => .swap x y r
  | x :: r, p + 1 => (swp_perm r p).cons x
theorem act_map {α β : Type} (f : α → β) : ∀ (c : List Int) (l : List α), act (l.map f) c = (act l c).map f
  | [], _ => rfl
  | p :: c, l => by
    show act (swp (l.map f) p.toNat) c = _
    rw [swp_map, act_map f c]
    rfl
theorem act_perm {α : Type} : ∀ (c : List Int) (l : List α), (act l c).Perm l
  | [], l => .refl _
  | p :: c, l => (act_perm c _).trans (swp_perm l _)
def chs : Nat → List (List Int)
  | 2 => [[], [0]]
  | 3 => [[], [0], [1]]
  | 4 => [[], [0], [0, 2], [1], [2]]
  | 5 => [[], [0], [0, 2], [0, 3], [1], [1, 3], [2], [3]]
  | 6 => [[], [0], [0, 2], [0, 2, 4], [0, 3], [0, 4], [1], [1, 3], [1, 4], [2], [2, 4], [3], [4]]
  | _ => []
theorem act_inv {α : Type} {b : Nat} (hb : isB b) {c : List Int} (hc : c ∈ chs b) {l : List α} (hl : l.length = b) : act (act l c) c = l := by
  rcases hb with rfl | rfl | rfl | rfl | rfl
  · match l, hl with
    | [x0, x1], _ =>
      simp only [chs, List.mem_cons, List.not_mem_nil, or_false] at hc
      rcases hc with rfl | rfl <;> rfl
  · match l, hl with
    | [x0, x1, x2], _ =>
      simp only [chs, List.mem_cons, List.not_mem_nil, or_false] at hc
      rcases hc with rfl | rfl | rfl <;> rfl
  · match l, hl with
    | [x0, x1, x2, x3], _ =>
      simp only [chs, List.mem_cons, List.not_mem_nil, or_false] at hc
      rcases hc with rfl | rfl | rfl | rfl | rfl <;> rfl
  · match l, hl with
    | [x0, x1, x2, x3, x4], _ =>
      simp only [chs, List.mem_cons, List.not_mem_nil, or_false] at hc
      rcases hc with rfl | rfl | rfl | rfl | rfl | rfl | rfl | rfl <;> rfl
  · match l, hl with
    | [x0, x1, x2, x3, x4, x5], _ =>
      simp only [chs, List.mem_cons, List.not_mem_nil, or_false] at hc
      rcases hc with rfl | rfl | rfl | rfl | rfl | rfl | rfl | rfl | rfl | rfl | rfl | rfl | rfl <;> rfl
theorem changed_ok {b : Nat} (hb : isB b) {c : List Int} (hc : c ∈ chs b) {l : List D} (hl : l.length = b) : m_changed_row [.tuple l, tI c] = some (.ret (.tuple (act l c))) ∧ m_law_behind [.tuple l, tI c] = some (.ret (.tuple (act l c))) := by
  rcases hb with rfl | rfl | rfl | rfl | rfl
  · match l, hl with
    | [x0, x1], _ =>
      simp only [chs, List.mem_cons, List.not_mem_nil, or_false] at hc
      rcases hc with rfl | rfl <;> exact ⟨by rfl, by rfl⟩
  · match l, hl with
    | [x0, x1, x2], _ =>
      simp only [chs, List.mem_cons, List.not_mem_nil, or_false] at hc
      rcases hc with rfl | rfl | rfl <;> exact ⟨by rfl, by rfl⟩
  · match l, hl with
    | [x0, x1, x2, x3], _ =>
      simp only [chs, List.mem_cons, List.not_mem_nil, or_false] at hc
      rcases hc with rfl | rfl | rfl | rfl | rfl <;> exact ⟨by rfl, by rfl⟩
  · match l, hl with
    | [x0, x1, x2, x3, x4], _ =>
      simp only [chs, List.mem_cons, List.not_mem_nil, or_false] at hc
      rcases hc with rfl | rfl | rfl | rfl | rfl | rfl | rfl | rfl <;> exact ⟨by rfl, by rfl⟩
  · match l, hl with
    | [x0, x1, x2, x3, x4, x5], _ =>
      simp only [chs, List.mem_cons, List.not_mem_nil, or_false] at hc
      rcases hc with rfl | rfl | rfl | rfl | rfl | rfl | rfl | rfl | rfl | rfl | rfl | rfl | rfl <;> exact ⟨by rfl, by rfl⟩
/-! ### the rows of a lead -/
def runs (r : List Int) : List (List Int) → List (List Int)
  | [] => []
  | c :: L => act r c :: runs (act r c) L
def ledTo (r : List Int) : List (List Int) → List Int
  | [] => r
  | c :: L => ledTo (act r c) L
theorem act_len {α : Type} (c : List Int) (l : List α) : (act l c).length = l.length := (act_perm c l).length_eq
theorem runs_len : ∀ (L : List (List Int)) (r : List Int), (runs r L).length = L.length
  | [], _ => rfl
  | c :: L, r => by
    simp only [runs, List.length_cons, runs_len L]
theorem changed_t {b : Nat} (hb : isB b) {c : List Int} (hc : c ∈ chs b) {r : List Int} (hl : r.length = b) : m_changed_row [tI r, tI c] = some (.ret (tI (act r c))) ∧ m_law_behind [tI r, tI c] = some (.ret (tI (act r c))) := by
  have h := changed_ok hb hc (l := r.map PyData.int) (by rw [List.length_map]; exact hl)
  rw [act_map] at h
  exact h
theorem behind_run {b : Nat} (hb : isB b) (lead : D) : ∀ (L : List (List Int)) (r : List Int) (acc : List D) (s3 : Slot), (∀ c ∈ L, c ∈ chs b) → r.length = b → acc.length + L.length ≤ 1000 →
    ∃ s', forRun (gN 3) l_rows_behind_1 (L.map tI) [.sh (tI r), .sh lead, .ow acc, s3] = some (.nx [.sh (tI (ledTo r L)), .sh lead, .ow (.lst (acc ++ (runs r L).map tI)), s'])
  | [], r, acc, s3, _, _, _ => ⟨s3, by simp [forRun, ledTo, runs]⟩
  | c :: L, r, acc, s3, hc, hl, hn => by
    have h1 := (changed_t hb (hc c (List.mem_cons_self ..)) hl).1
    have hlen : (act r c).length = b := (act_len c r).trans hl
    rw [List.length_cons] at hn
    obtain ⟨s', ih⟩ := behind_run hb lead L (act r c) (acc ++ [tI (act r c)]) (.sh (tI c)) (fun d hd => hc d (List.mem_cons_of_mem _ hd)) hlen (by rw [List.length_append, List.length_singleton]; omega)
    refine ⟨s', ?_⟩
    have hacc : acc.length < 100000 := by omega
    have hb1 : l_rows_behind_1 [.sh (tI r), .sh lead, .ow acc, .sh (tI c)] = some (.nx [.sh (tI (act r c)), .sh lead, .ow (.lst (acc ++ [tI (act r c)])), .sh (tI c)]) := by
      simp [l_rows_behind_1, sSeq, sSet, fCall, aCons, aNil, fVar, h1, free0, sApp, isOw, hacc, sNil]
    rw [List.map_cons]
    simp only [forRun]
    rw [show gN 3 (tI c) [.sh (tI r), .sh lead, .ow acc, s3] = some [.sh (tI r), .sh lead, .ow acc, .sh (tI c)] from rfl]
    simp only [hb1]
    rw [ih]
    simp [ledTo, runs]
theorem rows_behind_ok {b : Nat} (hb : isB b) {L : List (List Int)} (hL : ∀ c ∈ L, c ∈ chs b) {r : List Int} (hl : r.length = b) (hn : L.length ≤ 1000) : m_rows_behind [tI r, .tuple (L.map tI)] = some (.ret (.list ((runs r L).map tI))) := by
  obtain ⟨s', h⟩ := behind_run hb (.tuple (L.map tI)) L r [] .no hL hl (by simpa using hn)
  simp [m_rows_behind, mOf, b_rows_behind, s_rows_behind_0, s_rows_behind_1, s_rows_behind_2, sSeq, sSetO, lLst, aNil, free0, sFor, iSeq, fVar, h, sRetO]
theorem last_at (A : List D) (x : D) : ixD (.list (A ++ [x])) (.int (-1)) = some x := by
  show atI (A ++ [x]) (-1) = some x
  have e : ixN (A ++ [x]).length (-1) = some A.length := by
    unfold ixN
    rw [List.length_append, List.length_singleton, if_neg (by omega)]
    rw [if_pos (by omega)]
    congr 1
    omega
  unfold atI
  rw [e]
  show (A ++ [x])[A.length]? = some x
  rw [List.getElem?_append_right (Nat.le_refl _), Nat.sub_self]
  rfl
def ldD (L : List (List Int)) : D := .tuple (L.map tI)
def rwD (R : List (List Int)) : D := .list (R.map tI)
theorem nd2_lead (L : List (List Int)) (h : L.length ≤ 1000) (hc : ∀ c ∈ L, c.length ≤ 1000) : ND2 (ldD L) := by
  refine ⟨fun _ h => (by cases h), fun ds e => ?_⟩
  cases e
  refine ⟨by rw [List.length_map]; omega, fun d hd => ?_⟩
  obtain ⟨c, hm, rfl⟩ := List.mem_map.mp hd
  exact nd1_tI c (by have := hc c hm; omega)
theorem ch_ok {b : Nat} (hb : isB b) {c : List Int} (hc : c ∈ chs b) : couldCh (b : Int) (tI c) = true ∧ c.length ≤ 3 := by
  rcases hb with rfl | rfl | rfl | rfl | rfl <;> simp only [chs, List.mem_cons, List.not_mem_nil, or_false] at hc
  · rcases hc with rfl | rfl <;> decide
  · rcases hc with rfl | rfl | rfl <;> decide
  · rcases hc with rfl | rfl | rfl | rfl | rfl <;> decide
  · rcases hc with rfl | rfl | rfl | rfl | rfl | rfl | rfl | rfl <;> decide
  · rcases hc with rfl | rfl | rfl | rfl | rfl | rfl | rfl | rfl | rfl | rfl | rfl | rfl | rfl <;> decide
/-- a lead of so many bells -/
structure Ld (b : Nat) (L : List (List Int)) : Prop where
  ch : ∀ c ∈ L, c ∈ chs b
  lo : 1 ≤ L.length
  hi : L.length ≤ 24
theorem lead_could {b : Nat} (hb : isB b) {L : List (List Int)} (h : Ld b L) : couldLead (b : Int) (ldD L) = true := by
  show (decide (1 ≤ (L.map tI).length) && decide ((L.map tI).length ≤ 24) && (L.map tI).all (couldCh b)) = true
  rw [List.length_map]
  have h1 := h.lo
  have h2 := h.hi
  have h3 : (L.map tI).all (couldCh b) = true := List.all_eq_true.mpr fun d hd => by
    obtain ⟨c, hm, rfl⟩ := List.mem_map.mp hd
    exact (ch_ok hb (h.ch c hm)).1
  simp [h1, h2, h3]
theorem lead_nd {b : Nat} (hb : isB b) {L : List (List Int)} (h : Ld b L) : ND2 (ldD L) := nd2_lead L (by have := h.hi; omega) fun c hm => by
  have := (ch_ok hb (h.ch c hm)).2
  omega
theorem len_row {b : Nat} {r : List Int} (hr : r.Perm (rnds b)) : uLen (tI r) = some (.int (b : Nat)) := by
  show some (PyData.int ((r.map PyData.int).length : Nat)) = _
  rw [List.length_map, hr.length_eq, rnds_len]
theorem runs_last : ∀ (L : List (List Int)) (r : List Int), L ≠ [] → ∃ A, runs r L = A ++ [ledTo r L]
  | [], _, h => absurd rfl h
  | [c], r, _ => ⟨[], rfl⟩
  | c :: d :: L, r, _ => by
    obtain ⟨A, h⟩ := runs_last (d :: L) (act r c) (by simp)
    exact ⟨act r c :: A, by show act r c :: runs (act r c) (d :: L) = _; rw [h]; rfl⟩
theorem last_runs {L : List (List Int)} (r : List Int) (h : 1 ≤ L.length) : ixD (rwD (runs r L)) (.int (-1)) = some (tI (ledTo r L)) := by
  obtain ⟨A, e⟩ := runs_last L r (by intro z; rw [z] at h; simp at h)
  unfold rwD
  rw [e, List.map_append]
  exact last_at _ _
/-! ### one row behind another -/
def joint (r s : List Int) : List Int := s.map fun k => r.getD k.toNat 0
theorem joint_rnds {b : Nat} {r : List Int} (hl : r.length = b) : joint r (rnds b) = r := by
  subst hl
  unfold joint rnds
  rw [List.map_map]
  apply List.ext_getElem?
  intro i
  rw [List.getElem?_map]
  by_cases h : i < r.length
  · rw [List.getElem?_range h, List.getElem?_eq_getElem h]
    show some (r.getD ((i : Int)).toNat 0) = _
    rw [Int.toNat_natCast, List.getD_eq_getElem?_getD, List.getElem?_eq_getElem h]
    rfl
  · rw [List.getElem?_eq_none (by rw [List.length_range]; omega), List.getElem?_eq_none (by omega)]
    rfl
theorem joint_act (r s : List Int) (c : List Int) : joint r (act s c) = act (joint r s) c := (act_map _ c s).symm
theorem joint_led (r : List Int) : ∀ (L : List (List Int)) (s : List Int), joint r (ledTo s L) = ledTo (joint r s) L
  | [], _ => rfl
  | c :: L, s => by
    show joint r (ledTo (act s c) L) = ledTo (act (joint r s) c) L
    rw [joint_led r L, joint_act]
theorem joint_runs (r : List Int) : ∀ (L : List (List Int)) (s : List Int), (runs s L).map (joint r) = runs (joint r s) L
  | [], _ => rfl
  | c :: L, s => by
    show joint r (act s c) :: (runs (act s c) L).map (joint r) = _
    rw [joint_runs r L, joint_act]
    rfl
theorem led_perm : ∀ (L : List (List Int)) (r : List Int), (ledTo r L).Perm r
  | [], _ => .refl _
  | c :: L, r => (led_perm L _).trans (act_perm c r)
theorem led_app : ∀ (L M : List (List Int)) (r : List Int), ledTo r (L ++ M) = ledTo (ledTo r L) M
  | [], _, _ => rfl
  | c :: L, M, r => led_app L M (act r c)
theorem led_back {b : Nat} (hb : isB b) : ∀ (L : List (List Int)) (r : List Int), (∀ c ∈ L, c ∈ chs b) → r.length = b → ledTo (ledTo r L) L.reverse = r
  | [], _, _, _ => rfl
  | c :: L, r, hc, hl => by
    rw [List.reverse_cons, led_app]
    show act (ledTo (ledTo (act r c) L) L.reverse) c = r
    rw [led_back hb L (act r c) (fun d hd => hc d (List.mem_cons_of_mem _ hd)) ((act_len c r).trans hl)]
    exact act_inv hb (hc c (List.mem_cons_self ..)) hl
/-! ### the draws -/
def CupOk (xs : List D) : Prop := ∃ c0 c1 : Int, xs = [.int c0, .int c1] ∧ 0 ≤ c0 ∧ 0 ≤ c1 ∧ c1 < 4294967296
theorem ix0 (a b : D) : ixD (.list [a, b]) (.int 0) = some a := by rfl
theorem ix1 (a b : D) : ixD (.list [a, b]) (.int 1) = some b := by rfl
theorem small_in {i : Int} (h0 : 0 ≤ i) (h1 : i < 4294967296) : small i = true := by
  unfold small
  simp only [Bool.and_eq_true, decide_eq_true_eq]
  omega
theorem ixn0 : ixN 2 0 = some 0 := by rfl
theorem ixn1 : ixN 2 1 = some 1 := by rfl
theorem roll_ok {xs : List D} (h : CupOk xs) {n : Int} (h1 : 1 ≤ n) (h2 : n ≤ 1000) : ∃ k xs', m_law_roll xs [.int n] = some (.int k, xs') ∧ 0 ≤ k ∧ k < n ∧ CupOk xs' := by
  obtain ⟨c0, c1, rfl, p0, p1, p2⟩ := h
  have n0 : n ≠ 0 := by omega
  have nd : n.natAbs < 1073741824 := by omega
  by_cases hc : 0 < c0
  · refine ⟨c0.fmod n, [.int (c0.fdiv n), .int c1], ?_, Int.fmod_nonneg_of_pos _ (by omega), Int.fmod_lt_of_pos _ (by omega), _, _, rfl, Int.fdiv_nonneg p0 (by omega), p1, p2⟩
    have g : cGt (.int c0) (.int 0) = some true := by
      show some (decide (c0 > 0)) = _
      rw [decide_eq_true (show c0 > 0 from hc)]
    simp [m_law_roll, mOfC, b_law_roll, s_law_roll_0, s_law_roll_1, s_law_roll_2, s_law_roll_3, sSeq, sIf, fCmpT, fCmp, fOp, fIxX, fPeek, pC, ix0, fC, g, sSet, f1, uInt, fVar, opMod, n0, free0, sAsg, opDiv, nd, gSubO, ixn0, sRet]
  · have g : cGt (.int c0) (.int 0) = some false := by
      show some (decide (c0 > 0)) = _
      rw [decide_eq_false (show ¬ c0 > 0 from hc)]
    have q0 : 0 ≤ (c1 * 30911 + 7901).fmod 2147483423 := Int.fmod_nonneg_of_pos _ (by omega)
    have q1 : (c1 * 30911 + 7901).fmod 2147483423 < 2147483423 := Int.fmod_lt_of_pos _ (by omega)
    generalize hd : (c1 * 30911 + 7901).fmod 2147483423 = d at q0 q1
    have s1 := small_in p1 p2
    have s2 := small_in (i := d) q0 (by omega)
    refine ⟨(((d * (d + 179)).fmod 2147483587).fdiv 751).fmod n, [.int c0, .int d], ?_, Int.fmod_nonneg_of_pos _ (by omega), Int.fmod_lt_of_pos _ (by omega), _, _, rfl, p0, q0, by omega⟩
    simp [m_law_roll, mOfC, b_law_roll, s_law_roll_0, s_law_roll_1, s_law_roll_2, s_law_roll_3, sSeq, sIf, fCmpT, fCmp, fOp, fIxX, fPeek, pC, ix0, ix1, fC, g, sNil, sAsg, opMul, s1, opAdd, f1, uInt, opMod, hd, gSubO, ixn1, sSet, s2, free0, fVar, opDiv, n0, sRet]
theorem getAt {ds : List D} {k : Int} (h0 : 0 ≤ k) (h1 : k < ds.length) : ∃ d, ds[k.toNat]? = some d ∧ d ∈ ds ∧ ixD (.list ds) (.int k) = some d := by
  obtain ⟨j, rfl⟩ : ∃ j : Nat, k = j := ⟨k.toNat, by omega⟩
  have hk : j < ds.length := by omega
  rw [Int.toNat_natCast]
  exact ⟨ds[j], List.getElem?_eq_getElem hk, List.getElem_mem hk, atI_nat (List.getElem?_eq_getElem hk)⟩
theorem some_ok {xs : List D} (h : CupOk xs) {ds : List D} (h1 : 1 ≤ ds.length) (h2 : ds.length ≤ 1000) : ∃ d xs', m_law_some xs [.list ds] = some (d, xs') ∧ d ∈ ds ∧ CupOk xs' := by
  obtain ⟨k, xs', e, k0, k1, hx⟩ := roll_ok h (n := (ds.length : Nat)) (by omega) (by omega)
  obtain ⟨d, _, hm, hi⟩ := getAt k0 k1
  refine ⟨d, xs', ?_, hm, hx⟩
  simp [m_law_some, mOfC, b_law_some, s_law_some_0, sSeq, sRet, fOp, fVar, fCallC, isOw, aCons, aNil, f1, uLen, ixE, e, hi]
theorem changes_ok {b : Nat} (hb : isB b) : m_law_changes [.int (b : Nat)] = some (.ret (.list ((chs b).map tI))) := by
  rcases hb with rfl | rfl | rfl | rfl | rfl <;> rfl
def chs3 (b : Nat) : List D := ((chs b).tail.map tI) ++ (((chs b).tail.map tI) ++ ((chs b).tail.map tI)) ++ (chs b).map tI
theorem change_ok {b : Nat} (hb : isB b) {xs : List D} (h : CupOk xs) : ∃ c xs', m_law_change xs [.int (b : Nat)] = some (tI c, xs') ∧ c ∈ chs b ∧ CupOk xs' := by
  have hcs := changes_ok hb
  have hs : ∃ zs, fOp opAdd (fOp opMul (fSlA (fVar 2) (oInt (pC (.int 1))) oNo) (fC (.int 3))) (fVar 2) [.ow xs, .sh (.int (b : Nat)), .sh (.list ((chs b).map tI))] = some (.list zs, [.ow xs, .sh (.int (b : Nat)), .sh (.list ((chs b).map tI))]) ∧ 1 ≤ zs.length ∧ zs.length ≤ 1000 ∧ ∀ z ∈ zs, ∃ c ∈ chs b, z = tI c := by
    have cov : ∀ zs : List D, zs = chs3 b → ∀ z ∈ zs, ∃ c ∈ chs b, z = tI c := fun zs e z hz => by
      subst e
      have tl : ∀ z ∈ (chs b).tail.map tI, ∃ c ∈ chs b, z = tI c := fun z hz => by
        obtain ⟨c, hc, rfl⟩ := List.mem_map.mp hz
        exact ⟨c, List.mem_of_mem_tail hc, rfl⟩
      unfold chs3 at hz
      rcases List.mem_append.mp hz with hz | hz
      · rcases List.mem_append.mp hz with hz | hz
        · exact tl z hz
        · rcases List.mem_append.mp hz with hz | hz
          · exact tl z hz
          · exact tl z hz
      · obtain ⟨c, hc, rfl⟩ := List.mem_map.mp hz
        exact ⟨c, hc, rfl⟩
    refine ⟨chs3 b, ?_, ?_, ?_, cov _ rfl⟩
    · rcases hb with rfl | rfl | rfl | rfl | rfl <;> rfl
    · rcases hb with rfl | rfl | rfl | rfl | rfl <;> decide
    · rcases hb with rfl | rfl | rfl | rfl | rfl <;> decide
  obtain ⟨zs, e1, z1, z2, z3⟩ := hs
  obtain ⟨d, xs', e2, hm, hx⟩ := some_ok h z1 z2
  obtain ⟨c, hc, rfl⟩ := z3 d hm
  refine ⟨c, xs', ?_, hc, hx⟩
  simp [m_law_change, mOfC, b_law_change, s_law_change_0, s_law_change_1, sSeq, sSet, fCall, aCons, aNil, fVar, hcs, free0] at e1 ⊢
  simp [sRet, fCallC, isOw, aCons, aNil, e1, e2]
theorem lead_run {b : Nat} (hb : isB b) (m : D) : ∀ (ds xs : List D), CupOk xs → ∃ (L : List (List Int)) (xs' : List D), cRun (gN 3) tTrue (fCallC 0 m_law_change (aCons (fVar 1) aNil)) [3] ds [.ow xs, .sh (.int (b : Nat)), .sh m, .no] = some (L.map tI, [.ow xs', .sh (.int (b : Nat)), .sh m, .no]) ∧
    L.length = ds.length ∧ (∀ c ∈ L, c ∈ chs b) ∧ CupOk xs'
  | [], xs, h => ⟨[], xs, rfl, rfl, fun c hc => (by cases hc), h⟩
  | d :: r, xs, h => by
    obtain ⟨c, x1, e1, hc, h1⟩ := change_ok hb h
    obtain ⟨L, x2, e2, hl, hL, h2⟩ := lead_run hb m r x1 h1
    refine ⟨c :: L, x2, ?_, by rw [List.length_cons, List.length_cons, hl], fun z hz => ?_, h2⟩
    · have hf : fCallC 0 m_law_change (aCons (fVar 1) aNil) [.ow xs, .sh (.int (b : Nat)), .sh m, .sh d] = some (tI c, [.ow x1, .sh (.int (b : Nat)), .sh m, .sh d]) := by
        simp [fCallC, isOw, aCons, aNil, fVar, e1]
      have hw : wipeD [Slot.ow x1, .sh (.int (b : Nat)), .sh m, .sh d] [3] = [.ow x1, .sh (.int (b : Nat)), .sh m, .no] := rfl
      have hg : gN 3 d [Slot.ow xs, .sh (.int (b : Nat)), .sh m, .no] = some [.ow xs, .sh (.int (b : Nat)), .sh m, .sh d] := rfl
      simp only [cRun, hg, tTrue, hf, hw, e2, List.map_cons]
    · rcases List.mem_cons.mp hz with rfl | hz
      · exact hc
      · exact hL z hz
theorem law_lead_ok {b : Nat} (hb : isB b) {xs : List D} (h : CupOk xs) : ∃ L xs', m_law_lead xs [.int (b : Nat), .int 8] = some (ldD L, xs') ∧ Ld b L ∧ L.length ≤ 8 ∧ CupOk xs' := by
  obtain ⟨k, x1, e1, k0, k1, h1⟩ := roll_ok h (n := 8) (by omega) (by omega)
  obtain ⟨L, x2, e2, hl, hL, h2⟩ := lead_run hb (.int 8) (rgD 0 (1 + k)) x1 h1
  have ok : rgOk 0 (1 + k) = true := by
    unfold rgOk
    simp only [Bool.and_eq_true, decide_eq_true_eq]
    omega
  have len : (rgD 0 (1 + k)).length = (1 + k).toNat := by
    unfold rgD
    rw [List.length_map, List.length_range]
    omega
  rw [len] at hl
  have hi : lRg (Sd.r1 (fOp opAdd (fC (.int 1)) (fCallC 0 m_law_roll (aCons (fVar 2) aNil)))) [.ow xs, .sh (.int (b : Nat)), .sh (.int 8), .no] = some (rgD 0 (1 + k), [.ow x1, .sh (.int (b : Nat)), .sh (.int 8), .no]) := by
    simp [lRg, Sd.r1, fOp, fC, fCallC, isOw, aCons, aNil, fVar, e1, opAdd, ok]
  have hc : lComp (lRg (Sd.r1 (fOp opAdd (fC (.int 1)) (fCallC 0 m_law_roll (aCons (fVar 2) aNil))))) (gN 3) tTrue (fCallC 0 m_law_change (aCons (fVar 1) aNil)) [3] [.ow xs, .sh (.int (b : Nat)), .sh (.int 8), .no] = some (L.map tI, [.ow x2, .sh (.int (b : Nat)), .sh (.int 8), .no]) := by
    have hn : noOwn [3] [Slot.ow x1, .sh (.int (b : Nat)), .sh (.int 8), .no] = true := rfl
    have hw : wipeD [Slot.ow x1, .sh (.int (b : Nat)), .sh (.int 8), .no] [3] = [.ow x1, .sh (.int (b : Nat)), .sh (.int 8), .no] := rfl
    have hlen : (rgD 0 (1 + k)).length ≤ 100000 := by rw [len]; omega
    simp only [lComp, hi, hn, hlen, and_self, if_true, hw, e2]
    rfl
  refine ⟨L, x2, ?_, ⟨hL, by omega, by omega⟩, by omega, h2⟩
  have hu : uTup (.list (L.map tI)) = some (ldD L) := rfl
  simp [m_law_lead, mOfC, b_law_lead, s_law_lead_0, sSeq, sRet, f1, fList, hc, hu]
theorem erase_map {α β : Type} (f : α → β) : ∀ (l : List α) (i : Nat), (l.map f).eraseIdx i = (l.eraseIdx i).map f
  | [], _ => rfl
  | _ :: _, 0 => rfl
  | x :: r, i + 1 => by
    show f x :: (r.map f).eraseIdx i = f x :: (r.eraseIdx i).map f
    rw [erase_map f r i]
theorem erase_perm : ∀ (l : List Int) (i : Nat) (h : i < l.length), (l[i] :: l.eraseIdx i).Perm l
  | [], _, h => absurd h (by simp)
  | _ :: _, 0, _ => .refl _
  | x :: r, i + 1, h => by
    show (r[i]'(by simpa using h) :: x :: r.eraseIdx i).Perm (x :: r)
    exact (List.Perm.swap _ _ _).trans ((erase_perm r i (by simpa using h)).cons x)
theorem shaped_ints : ∀ ns : List Int, SeqAt.shaped (.list (ns.map PyData.int)) = true
  | [] => rfl
  | _ :: r => shaped_ints r
theorem ne_nil (ns : List Int) : cNe (.list (ns.map PyData.int)) (.list []) = some (!ns.isEmpty) := by
  unfold cNe
  rw [if_pos ⟨shaped_ints ns, rfl⟩]
  cases ns <;> rfl
def pb (c : List Int) (p : Int) : Int := if p ∈ c then p + 1 else if p - 1 ∈ c then p - 1 else p
theorem rg_rn (n : Nat) : rgD 0 (n : Int) = (rnds n).map .int := by
  unfold rgD rnds
  rw [List.map_map]
  have : ((n : Int) - 0).toNat = n := by omega
  rw [this]
  refine List.map_congr_left fun i _ => ?_
  simp
theorem rg_ok {n : Nat} (h : n ≤ 1000) : rgOk 0 (n : Int) = true := by
  unfold rgOk
  simp
  omega
theorem flat_ints : ∀ ns : List Int, (ns.map PyData.int).all flat = true
  | [] => rfl
  | _ :: r => by
    rw [List.map_cons, List.all_cons, flat_ints r]
    rfl
theorem any_int (ns : List Int) (i : Int) : ((ns.map PyData.int).any fun z => PyData.eqv z (.int i)) = decide (i ∈ ns) := by
  induction ns with
  | nil => simp
  | cons n r ih =>
    rw [List.map_cons, List.any_cons, ih]
    simp [eq_comm]
@[simp] theorem wp_in_tI {QB : Bool → Prop} {ns : List Int} {i : Int} : Wp (cInE (.int i) (tI ns)) QB ↔ QB (decide (i ∈ ns)) := by
  have e : cInE (.int i) (tI ns) = some (decide (i ∈ ns)) := by
    show (if flat (.int i) = true ∧ (ns.map PyData.int).all flat = true then some ((ns.map PyData.int).any fun z => PyData.eqv z (.int i)) else none) = _
    rw [any_int, if_pos ⟨rfl, flat_ints ns⟩]
  rw [e]
  simp
@[simp] theorem ixt0 (a b : D) : ixE (.tuple [a, b]) (.int 0) = some a := rfl
@[simp] theorem ixt1 (a b : D) : ixE (.tuple [a, b]) (.int 1) = some b := rfl
theorem isIx_i {b : Nat} {i : Int} (h0 : 0 ≤ i) (h1 : i < b) : isIx (b : Int) (.int i) = true := by
  simp [isIx, h0, h1]
theorem zip_map {α : Type} (f : α → D) : ∀ xs ys : List α, zipD (xs.map f) (ys.map f) = (xs.zip ys).map fun p => wP [f p.1, f p.2]
  | [], _ => rfl
  | _ :: _, [] => rfl
  | x :: xs, y :: ys => by
    simp only [List.map_cons, zipD, List.zip_cons_cons, zip_map f xs ys]
theorem chs_len {b : Nat} (hb : isB b) : (chs b).length ≤ 13 := by
  rcases hb with rfl | rfl | rfl | rfl | rfl <;> decide
theorem b_le {b : Nat} (hb : isB b) : b ≤ 6 := by
  rcases hb with rfl | rfl | rfl | rfl | rfl <;> decide
theorem rnds_get {n i : Nat} (h : i < n) : (rnds n)[i]? = some (i : Int) := by
  unfold rnds
  rw [List.getElem?_map, List.getElem?_range h]
  rfl
theorem pb_all {b : Nat} (hb : isB b) : ∀ c ∈ chs b, (∀ p ∈ rnds b, 0 ≤ pb c p ∧ pb c p < b ∧ pb c (pb c p) = p ∧ (act (rnds b) c)[(pb c p).toNat]? = some p) := by
  rcases hb with rfl | rfl | rfl | rfl | rfl <;> decide +kernel
theorem mem_rnds {b : Nat} {p : Int} (h0 : 0 ≤ p) (h1 : p < b) : p ∈ rnds b := by
  unfold rnds
  exact List.mem_map.mpr ⟨p.toNat, List.mem_range.mpr (by omega), by omega⟩
theorem law_behind_ok {b : Nat} (hb : isB b) {c : List Int} (hc : c ∈ chs b) {l : List D} (hl : l.length = b) : m_law_behind [.tuple l, tI c] = some (.ret (.tuple (act l c))) := by
  rcases hb with rfl | rfl | rfl | rfl | rfl
  · match l, hl with
    | [x0, x1], _ =>
      simp only [chs, List.mem_cons, List.not_mem_nil, or_false] at hc
      rcases hc with rfl | rfl <;> rfl
  · match l, hl with
    | [x0, x1, x2], _ =>
      simp only [chs, List.mem_cons, List.not_mem_nil, or_false] at hc
      rcases hc with rfl | rfl | rfl <;> rfl
  · match l, hl with
    | [x0, x1, x2, x3], _ =>
      simp only [chs, List.mem_cons, List.not_mem_nil, or_false] at hc
      rcases hc with rfl | rfl | rfl | rfl | rfl <;> rfl
  · match l, hl with
    | [x0, x1, x2, x3, x4], _ =>
      simp only [chs, List.mem_cons, List.not_mem_nil, or_false] at hc
      rcases hc with rfl | rfl | rfl | rfl | rfl | rfl | rfl | rfl <;> rfl
  · match l, hl with
    | [x0, x1, x2, x3, x4, x5], _ =>
      simp only [chs, List.mem_cons, List.not_mem_nil, or_false] at hc
      rcases hc with rfl | rfl | rfl | rfl | rfl | rfl | rfl | rfl | rfl | rfl | rfl | rfl | rfl <;> rfl
theorem behind_t {b : Nat} (hb : isB b) {c : List Int} (hc : c ∈ chs b) {r : List Int} (hl : r.length = b) : m_law_behind [tI r, tI c] = some (.ret (tI (act r c))) := by
  have h := law_behind_ok hb hc (l := r.map PyData.int) (by rw [List.length_map]; exact hl)
  rw [act_map] at h
  exact h
theorem rung_ok {b : Nat} (hb : isB b) {L : List (List Int)} (hC : ∀ c ∈ L, c ∈ chs b) {r : List Int} (hl : r.length = b) (hn : L.length ≤ 900) : m_law_rung [tI r, ldD L] = some (.ret (.list ((runs r L).map tI))) := by
  refine Wp.eq ?_
  simp [m_law_rung, ldD]
  refine wp_forT tI (fun C δ => ∃ (A : List (List Int)) (z : List Int) (s3 : Sd.Slot), δ = [.sh (tI r), .sh (ldD L), .ow (.lst ((A ++ [z]).map tI)), s3] ∧ (∀ c ∈ C, c ∈ chs b) ∧ z.length = b ∧ A ++ z :: runs z C = r :: runs r L ∧ A.length + C.length ≤ 900) L (by rfl) ⟨[], r, .no, rfl, hC, hl, rfl, by simpa using hn⟩ ?_ ?_
  · rintro c C δ ⟨A, z, s3, rfl, hc, hz, e, hn⟩
    simp [l_law_rung_1, Sd.atI_last]
    refine wp_of_eq (behind_t hb (hc c (List.mem_cons_self ..)) hz) ?_
    simp at hn ⊢
    refine ⟨by omega, A ++ [z], act z c, ⟨by simp, rfl⟩, fun d hd => hc d (List.mem_cons_of_mem _ hd), (act_len c z).trans hz, ?_, by simp; omega⟩
    rw [List.append_assoc]
    exact e
  · rintro δ ⟨A, z, s3, rfl, hc, hz, e, hn⟩
    simp [runs] at e
    simp
    rw [cut1, show List.map tI A ++ [tI z] = (A ++ [z]).map tI by simp, e]
    rfl
def wlk (p : Int) : List (List Int) → List Int
  | [] => []
  | c :: L => pb c p :: wlk (pb c p) L
theorem idx_of {l : List Int} (nd : l.Nodup) {j : Nat} {x : Int} (h : l[j]? = some x) : l.idxOf x = j := by
  have hl := (List.getElem?_eq_some_iff.mp h).1
  have hm : x ∈ l := List.mem_of_getElem? h
  have hi := List.idxOf_lt_length_iff.mpr hm
  refine (List.getElem?_inj hi nd).mp ?_
  rw [h, List.getElem?_eq_getElem hi, List.getElem_idxOf hi]
theorem rnds_nodup (b : Nat) : (rnds b).Nodup := by
  unfold rnds
  refine List.Pairwise.map _ (fun a b (hab : a ≠ b) => ?_) List.nodup_range
  omega
theorem idx_rnds {b : Nat} {k : Int} (h0 : 0 ≤ k) (h1 : k < b) : (((rnds b).idxOf k : Nat) : Int) = k := by
  have := idx_of (rnds_nodup b) (j := k.toNat) (x := k) (by rw [rnds_get (by omega)]; congr 1; omega)
  omega
theorem idx_act {b : Nat} (hb : isB b) {c : List Int} (hc : c ∈ chs b) {z : List Int} (hz : z.Perm (rnds b)) {k : Int} (hk : k ∈ rnds b) : (((act z c).idxOf k : Nat) : Int) = pb c ((z.idxOf k : Nat) : Int) := by
  have hm : k ∈ z := hz.mem_iff.mpr hk
  have zl : z.length = b := hz.length_eq.trans (rnds_len b)
  have hi := List.idxOf_lt_length_iff.mpr hm
  have hp := pb_all hb c hc ((z.idxOf k : Nat) : Int) (mem_rnds (by omega) (by omega))
  have e : act z c = joint z (act (rnds b) c) := by
    rw [joint_act, joint_rnds zl]
  have nd : (act z c).Nodup := ((act_perm c z).trans hz).nodup_iff.mpr (rnds_nodup b)
  have := idx_of nd (j := (pb c ((z.idxOf k : Nat) : Int)).toNat) (x := k) (by
    rw [e]
    unfold joint
    rw [List.getElem?_map, hp.2.2.2, Option.map_some, List.getD_eq_getElem?_getD, Int.toNat_natCast, List.getElem?_eq_getElem hi, List.getElem_idxOf hi]
    rfl)
  omega
theorem walk_runs {b : Nat} (hb : isB b) {k : Int} (hk : k ∈ rnds b) : ∀ (L : List (List Int)) (z : List Int), (∀ c ∈ L, c ∈ chs b) → z.Perm (rnds b) → ((runs z L).map fun r => ((r.idxOf k : Nat) : Int)) = wlk ((z.idxOf k : Nat) : Int) L
  | [], _, _, _ => rfl
  | c :: L, z, hc, hz => by
    have ih := walk_runs hb hk L (act z c) (fun d hd => hc d (List.mem_cons_of_mem _ hd)) ((act_perm c z).trans hz)
    rw [runs, List.map_cons, wlk, ih, idx_act hb (hc c (List.mem_cons_self ..)) hz hk]
theorem runs_perm : ∀ (L : List (List Int)) (z : List Int), ∀ r ∈ runs z L, r.Perm z
  | [], _, _, h => by cases h
  | c :: L, z, r, h => by
    rcases List.mem_cons.mp h with rfl | h
    · exact act_perm c z
    · exact (runs_perm L _ r h).trans (act_perm c z)
@[simp] theorem shaped_ld (L : List (List Int)) : shn 64 (ldD L) = true := by
  unfold ldD
  rw [shn_t]
  simp
theorem isNone_ld (L : List (List Int)) : isNone (ldD L) = false := rfl
theorem w_roll {xs : List D} (h : CupOk xs) {n : Int} (h1 : 1 ≤ n) (h2 : n ≤ 1000) {Q : D × List D → Prop} (q : ∀ (k : Nat) xs', (k : Int) < n → CupOk xs' → Q (.int k, xs')) : Wp (m_law_roll xs [.int n]) Q := by
  obtain ⟨k, x1, e, k0, k1, hx⟩ := roll_ok h h1 h2
  obtain ⟨j, rfl⟩ : ∃ j : Nat, k = j := ⟨k.toNat, by omega⟩
  exact wp_of_eq e (q j x1 k1 hx)
theorem w_some {xs : List D} (h : CupOk xs) {ds : List D} (h1 : 1 ≤ ds.length) (h2 : ds.length ≤ 1000) {Q : D × List D → Prop} (q : ∀ d xs', d ∈ ds → CupOk xs' → Q (d, xs')) : Wp (m_law_some xs [.list ds]) Q := by
  obtain ⟨d, x1, e, hm, hx⟩ := some_ok h h1 h2
  exact wp_of_eq e (q d x1 hm hx)
theorem w_change {b : Nat} (hb : isB b) {xs : List D} (h : CupOk xs) {Q : D × List D → Prop} (q : ∀ c xs', c ∈ chs b → CupOk xs' → Q (tI c, xs')) : Wp (m_law_change xs [.int (b : Nat)]) Q := by
  obtain ⟨c, x1, e, hc, hx⟩ := change_ok hb h
  exact wp_of_eq e (q c x1 hc hx)
theorem w_cup {ns : List Int} (h : ns.length ≤ 63) {Q : List D → Prop} (q : ∀ xs, CupOk xs → Q xs) : Wp (m_law_cup ns) Q := by
  simp [m_law_cup]
  refine ⟨by omega, by omega, ?_⟩
  obtain ⟨a, ha⟩ : ∃ a : Int, atI (ns.map PyData.int ++ [.int 0]) 0 = some (.int a) := by
    cases ns with
    | nil => exact ⟨0, rfl⟩
    | cons n r => exact ⟨n, atI_nat (j := 0) rfl⟩
  refine wp_of_eq ha ?_
  obtain ⟨c, hc, p⟩ : ∃ c : Int, (if a < 0 then -a else a) = c ∧ 0 ≤ c := ⟨_, rfl, by split <;> omega⟩
  have s229 : small 229 = true := by decide
  have s10 : small 10 = true := by decide
  have q0 : 0 ≤ (c * 229 + 1709).fmod 2077503719 := Int.fmod_nonneg_of_pos _ (by omega)
  have q1 : (c * 229 + 1709).fmod 2077503719 < 2077503719 := Int.fmod_lt_of_pos _ (by omega)
  simp [hc, s229, s10]
  refine ⟨fun hg => q _ ⟨_, _, rfl, Int.fdiv_nonneg p (by omega), by omega, by omega⟩, fun hg => q _ ⟨_, _, rfl, by omega, by omega, by omega⟩⟩
theorem w_lead {b : Nat} (hb : isB b) {xs : List D} (h : CupOk xs) {m : Int} (m1 : 1 ≤ m) (m2 : m ≤ 24) {Q : D × List D → Prop} (q : ∀ L xs', Ld b L → CupOk xs' → Q (ldD L, xs')) : Wp (m_law_lead xs [.int (b : Nat), .int m]) Q := by
  simp [m_law_lead]
  refine w_roll h m1 (by omega) fun k x1 hk c1 => ?_
  have ok : rgOk 0 (1 + (k : Int)) = true := by
    unfold rgOk
    simp only [Bool.and_eq_true, decide_eq_true_eq]
    omega
  have len : (rgD 0 (1 + (k : Int))).length = 1 + k := by
    unfold rgD
    rw [List.length_map, List.length_range]
    omega
  obtain ⟨L, x2, e2, hl, hL, h2⟩ := lead_run hb (.int m) (rgD 0 (1 + (k : Int))) x1 c1
  rw [len] at hl
  simp [ok, len]
  refine ⟨by omega, wp_of_eq e2 ?_⟩
  simp
  exact q L x2 ⟨hL, by omega, by omega⟩ h2
theorem cut_from (ds : List D) (k : Nat) : Sd.cutD ds (some (k : Int)) none = ds.drop k := by
  unfold Sd.cutD
  have e1 : HT.sIx ds.length 0 (some (k : Int)) = min k ds.length := by
    show (if (k : Int) < 0 then ((k : Int) + (ds.length : Int)).toNat else min (k : Int).toNat ds.length) = _
    rw [if_neg (by omega)]
    simp
  have e2 : HT.sIx ds.length ds.length none = ds.length := rfl
  rw [e1, e2]
  rcases Nat.le_total k ds.length with h | h
  · rw [Nat.min_eq_left h]
    exact List.take_of_length_le (by rw [List.length_drop]; exact Nat.le_refl _)
  · rw [Nat.min_eq_right h, List.drop_of_length_le (Nat.le_refl _), List.drop_of_length_le h]
    simp
theorem cut_to (ds : List D) (k : Nat) : Sd.cutD ds none (some (k : Int)) = ds.take k := by
  unfold Sd.cutD
  have e1 : HT.sIx ds.length ds.length (some (k : Int)) = min k ds.length := by
    show (if (k : Int) < 0 then ((k : Int) + (ds.length : Int)).toNat else min (k : Int).toNat ds.length) = _
    rw [if_neg (by omega)]
    simp
  have e2 : HT.sIx ds.length 0 none = 0 := rfl
  rw [e1, e2]
  simp
theorem cut_from1 (ds : List D) (k : Nat) : Sd.cutD ds (some ((k : Int) + 1)) none = ds.drop (k + 1) := cut_from ds (k + 1)
theorem cut_from2 (ds : List D) (k : Nat) : Sd.cutD ds (some ((k : Int) + 1 + 1)) none = ds.drop (k + 2) := cut_from ds (k + 2)
theorem cut_to_1 (ds : List D) : Sd.cutD ds none (some 1) = ds.take 1 := cut_to ds 1
theorem cut_to1 (ds : List D) (k : Nat) : Sd.cutD ds none (some ((k : Int) + 1)) = ds.take (k + 1) := cut_to ds (k + 1)
theorem slK_tI {ns : List Int} {pl ph : PO'} {Q : D × DE → Prop} {δ : DE} : slK pl ph Q (tI ns, δ) ↔ Wp (pl δ) fun lo => Wp (ph δ) fun hi => Q (.tuple (Sd.cutD (ns.map .int) lo hi), δ) := Iff.rfl
theorem walk_len : ∀ (L : List (List Int)) (p : Int), (wlk p L).length = L.length
  | [], _ => rfl
  | c :: L, p => by rw [wlk, List.length_cons, List.length_cons, walk_len L]
theorem walk_rng {b : Nat} (hb : isB b) : ∀ (L : List (List Int)) (p : Int), (∀ c ∈ L, c ∈ chs b) → p ∈ rnds b → ∀ i ∈ wlk p L, 0 ≤ i ∧ i < (b : Int)
  | [], _, _, _, i, h => by cases h
  | c :: L, p, hc, hp, i, h => by
    have q := pb_all hb c (hc c (List.mem_cons_self ..)) p hp
    rcases List.mem_cons.mp h with rfl | h
    · exact ⟨q.1, q.2.1⟩
    · exact walk_rng hb L _ (fun d hd => hc d (List.mem_cons_of_mem _ hd)) (mem_rnds q.1 q.2.1) i h
theorem len_ld {L : List (List Int)} : uLen (ldD L) = some (.int (L.length : Nat)) := by
  unfold ldD
  rw [show uLen (.tuple (L.map tI)) = some (.int ((L.map tI).length : Nat)) from rfl, List.length_map]
/-! ### where a lead leads a place -/
def plc (p : Int) : List (List Int) → Int
  | [] => p
  | c :: L => plc (pb c p) L
theorem plc_last : ∀ (L : List (List Int)) (p : Int), (p :: wlk p L).getLast? = some (plc p L)
  | [], p => rfl
  | c :: L, p => by
    rw [wlk, List.getLast?_cons_cons, plc_last L]
    rfl
theorem idx_led {b : Nat} (hb : isB b) {k : Int} (hk : k ∈ rnds b) : ∀ (L : List (List Int)) (z : List Int), (∀ c ∈ L, c ∈ chs b) → z.Perm (rnds b) → (((ledTo z L).idxOf k : Nat) : Int) = plc ((z.idxOf k : Nat) : Int) L
  | [], _, _, _ => rfl
  | c :: L, z, hc, hz => by
    have ih := idx_led hb hk L (act z c) (fun d hd => hc d (List.mem_cons_of_mem _ hd)) ((act_perm c z).trans hz)
    rw [ledTo, plc, ih, idx_act hb (hc c (List.mem_cons_self ..)) hz hk]
/-! ### methods -/
structure Md (b : Nat) (L C : List (List Int)) : Prop where
  hb : isB b
  ld : Ld b L
  cs : ∀ c ∈ C, c ∈ chs b
  cl : C.length ≤ 5
def wys (L C : List (List Int)) : List (List (List Int)) := L :: C.map fun c => L.dropLast ++ [c]
def wsD (L C : List (List Int)) : D := .tuple ((wys L C).map ldD)
def kD (K : List Nat) : D := tI (K.map fun (n : Nat) => (n : Int))
theorem wys_len (L C : List (List Int)) : (wys L C).length = C.length + 1 := by simp [wys]
theorem wys_ld {b : Nat} {L C : List (List Int)} (h : Md b L C) : ∀ w ∈ wys L C, Ld b w := by
  intro w hw
  unfold wys at hw
  rcases List.mem_cons.mp hw with rfl | hw
  · exact h.ld
  · obtain ⟨c, hc, rfl⟩ := List.mem_map.mp hw
    have lo := h.ld.lo
    have hi := h.ld.hi
    refine ⟨?_, by simp, by simp; omega⟩
    intro d hd
    rcases List.mem_append.mp hd with hd | hd
    · exact h.ld.ch d (List.dropLast_subset L hd)
    · simp at hd
      rw [hd]
      exact h.cs c hc
section
variable {b : Nat} {L C : List (List Int)} (h : Md b L C)
include h
theorem lead_nd' : ND2 (ldD L) := lead_nd h.hb h.ld
theorem could_call_ok : m_could_call [.int (b : Nat), ldD C] = some (.ret (.bool true)) := by
  refine Wp.eq ?_
  have hl := h.cl
  simp [m_could_call]
  rw [show ldD C = .tuple (C.map tI) from rfl]
  simp [isT, show ¬ (5 : Int) < (C.length : Int) by omega]
  refine ⟨by omega, ?_⟩
  refine wp_cAll tI C (fun _ => .bool true) rfl (fun c hc => ?_) ?_
  · simp
    have q := ch_ok h.hb (h.cs c hc)
    refine wp_of_eq (could_change_eq (b : Int) (tI c) (nd1_tI c (by have := q.2; omega))) ?_
    simp [q.1]
  · rw [wp_uAll_map (f := fun _ => true)]
    simp
theorem method_ways_ok : m_method_ways [ldD L, ldD C] = some (.ret (wsD L C)) := by
  refine Wp.eq ?_
  have hl := h.cl
  have hi := h.ld.hi
  simp [m_method_ways]
  rw [show ldD C = .tuple (C.map tI) from rfl]
  simp
  refine ⟨by omega, ?_⟩
  refine wp_cAll tI C (fun c => ldD (L.dropLast ++ [c])) rfl (fun c hc => ?_) ?_
  · simp
    rw [show ldD L = .tuple (L.map tI) from rfl]
    simp
    have e : Sd.cutD (L.map tI) none (some (-1)) = (L.dropLast).map tI := by
      unfold Sd.cutD
      have e1 : HT.sIx (L.map tI).length (L.map tI).length (some (-1)) = L.length - 1 := by
        show (if (-1 : Int) < 0 then ((-1 : Int) + ((L.map tI).length : Int)).toNat else min (-1 : Int).toNat (L.map tI).length) = _
        rw [if_pos (by omega), List.length_map]
        omega
      have e2 : HT.sIx (L.map tI).length 0 none = 0 := rfl
      rw [e1, e2]
      simp [List.dropLast_eq_take, List.map_take]
    rw [e]
    simp [ldD]
    omega
  · simp [wsD, wys]
    omega
theorem led_last {r : List Int} {w : List (List Int)} (hw : Ld b w) {Q : D → Prop} (q : Q (tI (ledTo r w))) : Wp (atI ((runs r w).map tI) (-1)) Q := by
  obtain ⟨A, e⟩ := runs_last w r (by have := hw.lo; intro z; rw [z] at this; cases this)
  rw [e]
  refine wp_last (by simp) fun v hv => ?_
  simp at hv
  rw [← hv]
  exact q
theorem acting_rows_ok : m_acting_rows [.int (b : Nat), wsD L C] = some (.ret (.list ((wys L C).map fun w => tI (ledTo (rnds b) w)))) := by
  refine Wp.eq ?_
  have hl := h.cl
  simp [m_acting_rows, wsD]
  refine ⟨by rw [wys_len]; omega, ?_⟩
  refine wp_cAll ldD (wys L C) (fun w => tI (ledTo (rnds b) w)) rfl (fun w hw => ?_) ?_
  · have hL := wys_ld h w hw
    have hi := hL.hi
    simp
    refine wp_of_eq (rounds_ok h.hb).1 ?_
    simp
    refine wp_of_eq (rows_behind_ok h.hb hL.ch (rnds_len b) (by omega)) ?_
    simp
    have := led_last h (r := rnds b) hL (Q := fun d => d = tI (ledTo (rnds b) w)) rfl
    simpa using this
  · simp
end
/-! ### compositions -/
abbrev Wy := List (List (List Int))
def wy (W : Wy) (k : Nat) : List (List Int) := W.getD k []
def rowsC (W : Wy) : List Int → List Nat → List (List Int)
  | _, [] => []
  | r, k :: K => runs r (wy W k) ++ rowsC W (ledTo r (wy W k)) K
def fin (W : Wy) : List Int → List Nat → List Int
  | r, [] => r
  | r, k :: K => fin W (ledTo r (wy W k)) K
def headsC (W : Wy) : List Int → List Nat → List (List Int)
  | _, [] => []
  | r, k :: K => ledTo r (wy W k) :: headsC W (ledTo r (wy W k)) K
structure Wz (b : Nat) (W : Wy) : Prop where
  hb : isB b
  ld : ∀ w ∈ W, Ld b w
  lo : 1 ≤ W.length
  hi : W.length ≤ 6
def Cm (W : Wy) (K : List Nat) : Prop := (∀ k ∈ K, k < W.length) ∧ K.length ≤ 40
theorem wz_of {b : Nat} {L C : List (List Int)} (h : Md b L C) : Wz b (wys L C) := ⟨h.hb, wys_ld h, by rw [wys_len]; omega, by rw [wys_len]; have := h.cl; omega⟩
section
variable {b : Nat} {W : Wy} (h : Wz b W)
include h
theorem wy_ld {k : Nat} (hk : k < W.length) : Ld b (wy W k) := by
  unfold wy
  rw [List.getD_eq_getElem?_getD, List.getElem?_eq_getElem hk]
  exact h.ld _ (List.getElem_mem _)
omit h in
theorem wy_at {k : Nat} (hk : k < W.length) {α : Type} {f : List (List Int) → α} {Q : α → Prop} (q : Q (f (wy W k))) : Wp (atI (W.map f) (k : Int)) Q := by
  refine wp_atI (by simpa using hk) ?_
  unfold wy at q
  rw [List.getD_eq_getElem?_getD, List.getElem?_eq_getElem hk] at q
  simpa using q
theorem rowsC_len : ∀ (K : List Nat) (r : List Int), (∀ k ∈ K, k < W.length) → (rowsC W r K).length ≤ 24 * K.length ∧ K.length ≤ (rowsC W r K).length
  | [], r, _ => by simp [rowsC]
  | k :: K, r, hk => by
    have ih := rowsC_len K (ledTo r (wy W k)) (fun j hj => hk j (List.mem_cons_of_mem _ hj))
    have q := wy_ld h (hk k (List.mem_cons_self ..))
    have lo := q.lo
    have hi := q.hi
    rw [rowsC, List.length_append, runs_len, List.length_cons]
    omega
theorem rowsC_perm : ∀ (K : List Nat) (r : List Int), ∀ s ∈ rowsC W r K, s.Perm r
  | [], _, _, hs => by cases hs
  | k :: K, r, s, hs => by
    rw [rowsC] at hs
    rcases List.mem_append.mp hs with hs | hs
    · exact runs_perm _ r s hs
    · exact (rowsC_perm K _ s hs).trans (led_perm _ r)
omit h in
theorem rowsC_app : ∀ (K J : List Nat) (r : List Int), rowsC W r (K ++ J) = rowsC W r K ++ rowsC W (fin W r K) J
  | [], _, _ => rfl
  | k :: K, J, r => by
    rw [List.cons_append, rowsC, rowsC, fin, rowsC_app K J, List.append_assoc]
omit h in
theorem fin_app : ∀ (K J : List Nat) (r : List Int), fin W r (K ++ J) = fin W (fin W r K) J
  | [], _, _ => rfl
  | k :: K, J, r => by
    rw [List.cons_append, fin, fin_app K J]
    rfl
omit h in
theorem fin_perm : ∀ (K : List Nat) (r : List Int), (fin W r K).Perm r
  | [], r => .refl _
  | k :: K, r => (fin_perm K _).trans (led_perm _ r)
theorem rowsC_last : ∀ (K : List Nat) (r : List Int), (∀ k ∈ K, k < W.length) → K ≠ [] → (rowsC W r K).getLast? = some (fin W r K)
  | [], _, _, hn => absurd rfl hn
  | k :: K, r, hk, _ => by
    have q := wy_ld h (hk k (List.mem_cons_self ..))
    obtain ⟨A, e⟩ := runs_last (wy W k) r (by have := q.lo; intro z; rw [z] at this; cases this)
    rw [rowsC, fin]
    cases K with
    | nil =>
      rw [e]
      simp [rowsC, fin]
    | cons j J =>
      have ih := rowsC_last (j :: J) (ledTo r (wy W k)) (fun i hi => hk i (List.mem_cons_of_mem _ hi)) (by simp)
      rw [List.getLast?_append, ih]
      rfl
end
section
variable {b : Nat} {L C : List (List Int)} (h : Md b L C) {K : List Nat} (hK : Cm (wys L C) K)
include h hK
theorem rows_composed_ok : m_rows_composed [.int (b : Nat), ldD L, ldD C, kD K] = some (.ret (.list ((rowsC (wys L C) (rnds b) K).map tI))) := by
  have hz := wz_of h
  have hl := hK.2
  refine Wp.eq ?_
  simp [m_rows_composed]
  refine wp_of_eq (method_ways_ok h) ?_
  simp [t_rows_composed_1]
  refine wp_of_eq (rounds_ok h.hb).1 ?_
  simp [t_rows_composed_2, t_rows_composed_3, t_rows_composed_4, kD]
  refine wp_forT (fun k : Nat => (.int (k : Int) : D)) (fun rem δ => ∃ (don : List Nat) (s7 : Sd.Slot), K = don ++ rem ∧ δ = [.sh (.int (b : Nat)), .sh (ldD L), .sh (ldD C), .sh (kD K), .sh (wsD L C), .sh (tI (fin (wys L C) (rnds b) don)), .ow (.lst ((rowsC (wys L C) (rnds b) don).map tI)), s7]) K (by simp) ⟨[], .no, rfl, rfl⟩ ?_ ?_
  · rintro k rem δ ⟨don, s7, e, rfl⟩
    have kw : k < (wys L C).length := hK.1 k (by rw [e]; simp)
    have kd : ∀ j ∈ don, j < (wys L C).length := fun j hj => hK.1 j (by rw [e]; simp [hj])
    have dl : don.length + 1 ≤ 40 := by rw [e] at hl; simp at hl; omega
    have q := wy_ld hz kw
    have qh := q.hi
    have rl := rowsC_len hz don (rnds b) kd
    have fp := fin_perm (W := wys L C) don (rnds b)
    simp [l_rows_composed_1]
    rw [show wsD L C = .tuple ((wys L C).map ldD) from rfl]
    simp
    refine wp_atI kw ?_
    have ew : (wys L C)[k] = wy (wys L C) k := by
      unfold wy
      rw [List.getD_eq_getElem?_getD, List.getElem?_eq_getElem kw]
      rfl
    rw [ew]
    refine wp_of_eq (rows_behind_ok h.hb q.ch (fp.length_eq.trans (rnds_len b)) (by omega)) ?_
    simp [runs_len]
    refine ⟨by omega, ?_⟩
    have ee : rowsC (wys L C) (rnds b) don ++ runs (fin (wys L C) (rnds b) don) (wy (wys L C) k) = rowsC (wys L C) (rnds b) (don ++ [k]) := by
      rw [rowsC_app]
      simp [rowsC]
    rw [← List.map_append, ee]
    have hne : rowsC (wys L C) (rnds b) (don ++ [k]) ≠ [] := by
      intro z
      have := (rowsC_len hz (don ++ [k]) (rnds b) (by intro j hj; rcases List.mem_append.mp hj with hj | hj; exact kd j hj; simp at hj; rw [hj]; exact kw)).2
      rw [z] at this
      simp at this
    refine wp_last (by simpa using hne) fun v hv => ?_
    have lst := rowsC_last hz (don ++ [k]) (rnds b) (by intro j hj; rcases List.mem_append.mp hj with hj | hj; exact kd j hj; simp at hj; rw [hj]; exact kw) (by simp)
    have ev : v = tI (fin (wys L C) (rnds b) (don ++ [k])) := by
      rw [List.getLast?_map, lst] at hv
      exact (Option.some.inj hv).symm
    rw [ev]
    exact ⟨don ++ [k], by rw [e]; simp, rfl, rfl⟩
  · rintro δ ⟨don, s7, e, rfl⟩
    rw [List.append_nil] at e
    subst e
    simp
theorem could_compose_ok : m_could_compose [ldD C, kD K] = some (.ret (.bool true)) := by
  refine Wp.eq ?_
  have hl := hK.2
  have hc := h.cl
  have e := are_indices_eq (kD K) ((C.length : Int) + 1) (nd1_tI _ (by simp; omega))
  have e2 : areIx ((C.length : Int) + 1) (kD K) = true := by
    refine all_ix ?_
    intro i hi
    obtain ⟨k, hk, rfl⟩ := List.mem_map.mp hi
    have := hK.1 k hk
    rw [wys_len] at this
    omega
  rw [e2] at e
  simp [m_could_compose]
  rw [show ldD C = .tuple (C.map tI) from rfl]
  simp [e]
  rw [show kD K = tI (K.map fun (n : Nat) => (n : Int)) from rfl]
  simp
  omega
omit h hK in
theorem joint_row_ok {b : Nat} {r s : List Int} (hr : r.length = b) (hs : s.Perm (rnds b)) (hb : b ≤ 6) : m_joint_row [tI r, tI s] = some (.ret (tI (joint r s))) := by
  refine Wp.eq ?_
  have sl : s.length = b := hs.length_eq.trans (rnds_len b)
  simp [m_joint_row]
  refine ⟨by omega, ?_⟩
  refine wp_cAll PyData.int s (fun k => .int (r.getD k.toNat 0)) rfl (fun k hk => ?_) ?_
  · obtain ⟨k0, k1⟩ := rnds_mem (hs.mem_iff.mp hk)
    simp
    refine wp_atI_int k0 (by omega) ?_
    rw [List.getElem?_eq_getElem (by omega)]
    simp
  · simp [joint, tI]
theorem joint_way {r : List Int} (hr : r.Perm (rnds b)) {k : Nat} (hk : k < (wys L C).length) : m_joint_row [tI r, tI (ledTo (rnds b) (wy (wys L C) k))] = some (.ret (tI (ledTo r (wy (wys L C) k)))) := by
  have rl : r.length = b := hr.length_eq.trans (rnds_len b)
  have := joint_row_ok (r := r) rl (led_perm (wy (wys L C) k) (rnds b)) (b_le h.hb)
  rw [joint_led, joint_rnds rl] at this
  exact this
omit h hK in
theorem headsC_app (W : Wy) : ∀ (K J : List Nat) (r : List Int), headsC W r (K ++ J) = headsC W r K ++ headsC W (fin W r K) J
  | [], _, _ => rfl
  | k :: K, J, r => by
    rw [List.cons_append, headsC, headsC, fin, headsC_app W K J]
    rfl
omit h hK in
theorem headsC_len (W : Wy) : ∀ (K : List Nat) (r : List Int), (headsC W r K).length = K.length
  | [], _ => rfl
  | k :: K, r => by rw [headsC, List.length_cons, List.length_cons, headsC_len W K]
omit h hK in
theorem headsC_perm (W : Wy) : ∀ (K : List Nat) (r : List Int), ∀ s ∈ headsC W r K, s.Perm r
  | [], _, _, hs => by cases hs
  | k :: K, r, s, hs => by
    rw [headsC] at hs
    rcases List.mem_cons.mp hs with rfl | hs
    · exact led_perm _ r
    · exact (headsC_perm W K _ s hs).trans (led_perm _ r)
omit h hK in
theorem headsC_last (W : Wy) : ∀ (K : List Nat) (r : List Int), (r :: headsC W r K).getLast? = some (fin W r K)
  | [], _ => rfl
  | k :: K, r => by
    rw [headsC, List.getLast?_cons_cons, headsC_last W K, fin]
theorem course_heads_ok : m_course_heads [.int (b : Nat), wsD L C, kD K] = some (.ret (.list ((rnds b :: headsC (wys L C) (rnds b) K).map tI))) := by
  have hl := hK.2
  refine Wp.eq ?_
  simp [m_course_heads]
  refine wp_of_eq (acting_rows_ok h) ?_
  simp
  refine wp_of_eq (rounds_ok h.hb).1 ?_
  simp [kD]
  refine wp_forT (fun k : Nat => (.int (k : Int) : D)) (fun rem δ => ∃ (don : List Nat) (s5 : Sd.Slot), K = don ++ rem ∧ δ = [.sh (.int (b : Nat)), .sh (wsD L C), .sh (kD K), .sh (.list ((wys L C).map fun w => tI (ledTo (rnds b) w))), .ow (.lst ((rnds b :: headsC (wys L C) (rnds b) don).map tI)), s5]) K (by simp) ⟨[], .no, rfl, rfl⟩ ?_ ?_
  · rintro k rem δ ⟨don, s5, e, rfl⟩
    have kw : k < (wys L C).length := hK.1 k (by rw [e]; simp)
    have dl : don.length + 1 ≤ 40 := by rw [e] at hl; simp at hl; omega
    have fp := fin_perm (W := wys L C) don (rnds b)
    have hlen := headsC_len (wys L C) don (rnds b)
    simp [l_course_heads_1]
    have lst := headsC_last (wys L C) don (rnds b)
    refine wp_last (by simp) fun v hv => ?_
    have ev : v = tI (fin (wys L C) (rnds b) don) := by
      rw [← List.map_cons (f := tI), List.getLast?_map, lst] at hv
      exact (Option.some.inj hv).symm
    rw [ev]
    refine wp_atI kw ?_
    have ew : (wys L C)[k] = wy (wys L C) k := by
      unfold wy
      rw [List.getD_eq_getElem?_getD, List.getElem?_eq_getElem kw]
      rfl
    rw [ew]
    refine wp_of_eq (joint_way h hK fp kw) ?_
    simp [hlen]
    refine ⟨by omega, don ++ [k], by rw [e]; simp, ?_⟩
    rw [headsC_app]
    simp [headsC]
  · rintro δ ⟨don, s5, e, rfl⟩
    rw [List.append_nil] at e
    subst e
    simp
end
def ix (k : Int) (r : List Int) : Int := ((r.idxOf k : Nat) : Int)
def tourD (b : Nat) (L C : List (List Int)) (K : List Nat) : D := .tuple [.int (b : Nat), ldD L, ldD C, kD K]
def mD (b : Nat) (L C : List (List Int)) : D := .tuple [.int (b : Nat), ldD L, ldD C]
@[simp] theorem ixt40 (a b c d : D) : ixE (.tuple [a, b, c, d]) (.int 0) = some a := rfl
@[simp] theorem ixt43 (a b c d : D) : ixE (.tuple [a, b, c, d]) (.int 3) = some d := rfl
@[simp] theorem ixt30 (a b c : D) : ixE (.tuple [a, b, c]) (.int 0) = some a := rfl
@[simp] theorem ixt31 (a b c : D) : ixE (.tuple [a, b, c]) (.int 1) = some b := rfl
@[simp] theorem ixt32 (a b c : D) : ixE (.tuple [a, b, c]) (.int 2) = some c := rfl
theorem ix_rng {b : Nat} {r : List Int} (hr : r.Perm (rnds b)) {k : Int} (hk : k ∈ rnds b) : ix k r ∈ rnds b := by
  have hm : k ∈ r := hr.mem_iff.mpr hk
  have := List.idxOf_lt_length_iff.mpr hm
  have rl : r.length = b := hr.length_eq.trans (rnds_len b)
  exact mem_rnds (by unfold ix; omega) (by unfold ix; omega)
theorem ix_rnds {b : Nat} {k : Int} (hk : k ∈ rnds b) : ix k (rnds b) = k := by
  obtain ⟨k0, k1⟩ := rnds_mem hk
  exact idx_rnds k0 k1
theorem bells_could {b : Nat} (hb : isB b) : m_could_be_bells [.int (b : Nat)] = some (.ret (.bool true)) := by
  rcases hb with rfl | rfl | rfl | rfl | rfl <;> rfl
theorem check_bell_ok {b : Nat} {k : Int} (hk : k ∈ rnds b) : m_check_bell [.int (b : Nat), .int k] = some (.ret .none) := by
  obtain ⟨k0, k1⟩ := rnds_mem hk
  refine Wp.eq ?_
  simp [m_check_bell]
  refine wp_of_eq (is_index_eq (.int k) b (nd_int _)) ?_
  simp [isIx_i k0 k1]
section
variable {b : Nat} {L C : List (List Int)} (h : Md b L C) {K : List Nat} (hK : Cm (wys L C) K)
include h hK
theorem is_tour_ok : m_is_tour [tourD b L C K] = some (.ret (.bool true)) := by
  refine Wp.eq ?_
  simp [m_is_tour, tourD, isT]
  refine wp_of_eq (bells_could h.hb) ?_
  simp
  refine wp_of_eq (could_lead_eq b _ (lead_nd h.hb h.ld)) ?_
  simp [lead_could h.hb h.ld]
  refine wp_of_eq (could_call_ok h) ?_
  simp
  refine wp_of_eq (could_compose_ok h hK) ?_
  simp
theorem check_tour_ok : m_check_tour [tourD b L C K] = some (.ret .none) := by
  refine Wp.eq ?_
  simp [m_check_tour]
  refine wp_of_eq (is_tour_ok h hK) ?_
  simp
theorem check_tour_bell_ok {k : Int} (hk : k ∈ rnds b) : m_check_tour_and_bell [tourD b L C K, .int k] = some (.ret .none) := by
  refine Wp.eq ?_
  simp [m_check_tour_and_bell]
  refine wp_of_eq (check_tour_ok h hK) ?_
  simp [tourD]
  refine wp_of_eq (check_bell_ok hk) ?_
  simp
theorem heads_by_ok : m_heads_by [tourD b L C K] = some (.ret (.list ((rnds b :: headsC (wys L C) (rnds b) K).map tI))) := by
  refine Wp.eq ?_
  simp [m_heads_by, tourD]
  refine wp_of_eq (method_ways_ok h) ?_
  simp
  refine wp_of_eq (course_heads_ok h hK) ?_
  simp
theorem tour_heads_ok : m_tour_heads [tourD b L C K] = some (.ret (.list ((rnds b :: headsC (wys L C) (rnds b) K).map tI))) := by
  refine Wp.eq ?_
  simp [m_tour_heads]
  refine wp_of_eq (check_tour_ok h hK) ?_
  simp
  refine wp_of_eq (heads_by_ok h hK) ?_
  simp
def rowsT (b : Nat) (L C : List (List Int)) (K : List Nat) : List (List Int) := rnds b :: rowsC (wys L C) (rnds b) K
theorem rowsT_len : (rowsT b L C K).length ≤ 961 := by
  have := (rowsC_len (wz_of h) K (rnds b) hK.1).1
  have := hK.2
  unfold rowsT
  rw [List.length_cons]
  omega
theorem rowsT_perm : ∀ r ∈ rowsT b L C K, r.Perm (rnds b) := by
  intro r hr
  unfold rowsT at hr
  rcases List.mem_cons.mp hr with rfl | hr
  · exact .refl _
  · exact rowsC_perm (wz_of h) K _ r hr
theorem rowsT_last : (rowsT b L C K).getLast? = some (fin (wys L C) (rnds b) K) := by
  unfold rowsT
  by_cases hn : K = []
  · subst hn
    rfl
  · rw [List.getLast?_cons, rowsC_last (wz_of h) K (rnds b) hK.1 hn]
    rfl
theorem tour_rows_ok : m_tour_rows [tourD b L C K] = some (.ret (.list ((rowsT b L C K).map tI))) := by
  refine Wp.eq ?_
  have hl := (rowsC_len (wz_of h) K (rnds b) hK.1).1
  have hk := hK.2
  simp [m_tour_rows, tourD]
  refine wp_of_eq (rounds_ok h.hb).1 ?_
  simp
  refine wp_of_eq (rows_composed_ok h hK) ?_
  simp [rowsT]
  omega
theorem tour_path_ok {k : Int} (hk : k ∈ rnds b) : m_tour_path [tourD b L C K, .int k] = some (.ret (.list ((rowsT b L C K).map fun r => .int (ix k r)))) := by
  refine Wp.eq ?_
  have hl := rowsT_len h hK
  simp [m_tour_path]
  refine wp_of_eq (check_tour_bell_ok h hK hk) ?_
  simp
  refine wp_of_eq (tour_rows_ok h hK) ?_
  simp
  refine ⟨by omega, ?_⟩
  refine wp_cAll tI (rowsT b L C K) (fun r => .int (ix k r)) rfl (fun r hr => ?_) ?_
  · simp [ix]
    exact (rowsT_perm h hK r hr).mem_iff.mpr hk
  · simp
end
/-! ### what pairs lead -/
abbrev Pr := List (Int × Nat)
def prD (p : Int × Nat) : D := .tuple [.int p.1, .int (p.2 : Nat)]
def prsD (P : Pr) : D := .tuple (P.map prD)
structure Pz (b : Nat) (W : Wy) (P : Pr) : Prop where
  pl : ∀ p ∈ P, p.1 ∈ rnds b
  wa : ∀ p ∈ P, 0 < p.2 ∧ p.2 < W.length
  len : P.length ≤ 40
def way (W : Wy) (k : Int) (r : List Int) : Pr → Nat
  | [] => 0
  | p :: _ => if ix k (ledTo r (wy W p.2)) = p.1 then p.2 else 0
def lft (W : Wy) (k : Int) (r : List Int) : Pr → Pr
  | [] => []
  | p :: P => if ix k (ledTo r (wy W p.2)) = p.1 then P else p :: P
def comp (W : Wy) (b : Nat) (k : Int) : Nat → List Int → Pr → List Nat → Option (List Nat)
  | 0, _, _, _ => none
  | n + 1, r, P, acc => if lft W k r P = [] ∧ ledTo r (wy W (way W k r P)) = rnds b then some (acc ++ [way W k r P]) else comp W b k n (ledTo r (wy W (way W k r P))) (lft W k r P) (acc ++ [way W k r P])
def resD : Option (List Nat) → D
  | none => .none
  | some K => kD K
theorem comp_fin {W : Wy} {b : Nat} {k : Int} : ∀ (n : Nat) (r : List Int) (P : Pr) (acc K : List Nat), fin W (rnds b) acc = r → comp W b k n r P acc = some K → K ≠ [] ∧ fin W (rnds b) K = rnds b
  | 0, _, _, _, _, _, h => by cases h
  | n + 1, r, P, acc, K, e, h => by
    unfold comp at h
    have ef : fin W (rnds b) (acc ++ [way W k r P]) = ledTo r (wy W (way W k r P)) := by
      rw [fin_app, e]
      rfl
    split at h
    · rename_i hc
      obtain rfl := Option.some.inj h
      exact ⟨by simp, ef.trans hc.2⟩
    · exact comp_fin n _ _ _ K ef h
section
variable {b : Nat} {L C : List (List Int)} (h : Md b L C) {P : Pr} (hP : Pz b (wys L C) P) {k : Int} (hk : k ∈ rnds b)
def stD (b : Nat) (L C : List (List Int)) : D := .list ((wys L C).map fun w => tI (ledTo (rnds b) w))
theorem wys_get {L C : List (List Int)} {j : Nat} (kw : j < (wys L C).length) : (wys L C)[j] = wy (wys L C) j := by
  unfold wy
  rw [List.getD_eq_getElem?_getD, List.getElem?_eq_getElem kw]
  rfl
theorem way_lt {W : Wy} (hz : Pz b W P) (h1 : 1 ≤ W.length) (r : List Int) {u : Nat} : way W k r (P.drop u) < W.length := by
  cases e : P.drop u with
  | nil => simp [way]; omega
  | cons p t =>
    have hm : p ∈ P := List.mem_of_mem_drop (i := u) (by rw [e]; exact List.mem_cons_self ..)
    have := hz.wa p hm
    show (if ix k (ledTo r (wy W p.2)) = p.1 then p.2 else 0) < W.length
    split
    · exact this.2
    · omega
theorem drop_cons {u : Nat} {p : Int × Nat} {t : Pr} (e : P.drop u = p :: t) : ∃ hu : u < P.length, P[u] = p ∧ P.drop (u + 1) = t := by
  have hu : u < P.length := by
    rcases Nat.lt_or_ge u P.length with z | z
    · exact z
    · rw [List.drop_of_length_le z] at e
      cases e
  rw [List.drop_eq_getElem_cons hu] at e
  obtain ⟨e1, e2⟩ := List.cons.inj e
  exact ⟨hu, e1, e2⟩
include h hP hk
end
theorem led_ok {b : Nat} (hb : isB b) {L : List (List Int)} (hL : Ld b L) {r : List Int} (hl : r.length = b) : m_law_led [tI r, ldD L] = some (.ret (tI (ledTo r L))) := by
  refine Wp.eq ?_
  have h1 := hL.lo
  have h2 := hL.hi
  have hr := rung_ok hb hL.ch hl (by omega)
  obtain ⟨A, e⟩ := runs_last L r (by intro z; rw [z] at h1; cases h1)
  simp [m_law_led]
  refine wp_of_eq hr ?_
  simp [e]
  refine wp_last (by simp) fun v hv => ?_
  simp at hv
  simp [hv]
@[simp] theorem prs0 (p : Int × Nat) (t : Pr) : ixE (prsD (p :: t)) (.int 0) = some (.tuple [.int p.1, .int (p.2 : Nat)]) := by
  show atI (prD p :: t.map prD) ((0 : Nat) : Int) = _
  exact atI_nat rfl
@[simp] theorem eqv_prs (T : Pr) : PyData.eqv (prsD T) (.tuple []) = T.isEmpty := by simp [prsD]
@[simp] theorem shn_prs (T : Pr) : shn 64 (prsD T) = true := by
  unfold prsD
  rw [shn_t]
  simp [prD]
@[simp] theorem ne_prs {QB : Bool → Prop} (T : Pr) : Wp (cNe (prsD T) (.tuple [])) QB ↔ QB (!T.isEmpty) := by
  rw [wp_ne]
  have : shn 64 (prsD T) = true := shn_prs T
  have s2 : SeqAt.shaped (prsD T) = true := this
  have s3 : SeqAt.shaped (.tuple [] : D) = true := rfl
  simp only [s2, s3, and_self, true_and]
  simp [prsD]
@[simp] theorem eq_prs {QB : Bool → Prop} (T : Pr) : Wp (cEq (prsD T) (.tuple [])) QB ↔ QB T.isEmpty := by
  rw [wp_eq]
  have : shn 64 (prsD T) = true := shn_prs T
  have s2 : SeqAt.shaped (prsD T) = true := this
  have s3 : SeqAt.shaped (.tuple [] : D) = true := rfl
  simp only [s2, s3, and_self, true_and]
  simp [prsD]
@[simp] theorem slK_prs {T : Pr} {pl ph : PO'} {Q : D × DE → Prop} {δ : DE} : slK pl ph Q (prsD T, δ) ↔ Wp (pl δ) fun lo => Wp (ph δ) fun hi => Q (.tuple (Sd.cutD (T.map prD) lo hi), δ) := Iff.rfl
theorem lft_eq {W : Wy} {k : Int} {r : List Int} : ∀ {T : Pr}, (∀ p ∈ T, 0 < p.2) → lft W k r T = if way W k r T = 0 then T else T.drop 1
  | [], _ => by simp [lft]
  | p :: t, h => by
    have := h p (List.mem_cons_self ..)
    show (if ix k (ledTo r (wy W p.2)) = p.1 then t else p :: t) = if (if ix k (ledTo r (wy W p.2)) = p.1 then p.2 else 0) = 0 then p :: t else (p :: t).drop 1
    by_cases e : ix k (ledTo r (wy W p.2)) = p.1
    · rw [if_pos e, if_pos e, if_neg (by omega)]
      rfl
    · rw [if_neg e, if_neg e, if_pos rfl]
section
variable {b : Nat} {L C : List (List Int)} (h : Md b L C) {P : Pr} (hP : Pz b (wys L C) P) {k : Int} (hk : k ∈ rnds b)
def endD (b : Nat) (L C : List (List Int)) : D := .list ((wys L C).map fun w => .list ((rnds b).map fun p => .int (plc p w)))
include h
theorem at_place {p : Int} (hp : p ∈ rnds b) {Q : Int → Prop} (q : Q p) : Wp (atI (rnds b) p) Q := by
  obtain ⟨p0, p1⟩ := rnds_mem hp
  refine wp_atI_int p0 (by rw [rnds_len]; exact p1) ?_
  have := rnds_get (n := b) (i := p.toNat) (by omega)
  rw [List.getElem?_eq_getElem (by rw [rnds_len]; omega)] at this
  have e := Option.some.inj this
  rw [e]
  rw [show ((p.toNat : Nat) : Int) = p by omega]
  exact q
include hP hk
end
theorem zip_map2 {α β : Type} (f : α → D) (g : β → D) : ∀ (xs : List α) (ys : List β), zipD (xs.map f) (ys.map g) = (xs.zip ys).map fun p => wP [f p.1, g p.2]
  | [], _ => rfl
  | _ :: _, [] => rfl
  | x :: xs, y :: ys => by
    simp only [List.map_cons, zipD, List.zip_cons_cons, zip_map2 f g xs ys]
section
variable {b : Nat} {L C : List (List Int)} (h : Md b L C) {K : List Nat} (hK : Cm (wys L C) K) {k : Int} (hk : k ∈ rnds b)
/-- the pairs that tell a composition -/
def prsT (b : Nat) (L C : List (List Int)) (K : List Nat) (k : Int) : Pr := (((headsC (wys L C) (rnds b) K).zip K).filter fun q => decide (q.2 ≠ 0)).map fun q => (ix k q.1, q.2)
include h hK hk
theorem prsT_pz : Pz b (wys L C) (prsT b L C K k) := by
  refine ⟨?_, ?_, ?_⟩
  · intro p hp
    obtain ⟨q, hq, rfl⟩ := List.mem_map.mp hp
    have hz := List.of_mem_zip (List.mem_filter.mp hq).1
    exact ix_rng (headsC_perm _ K (rnds b) _ hz.1) hk
  · intro p hp
    obtain ⟨q, hq, rfl⟩ := List.mem_map.mp hp
    have hz := List.of_mem_zip (List.mem_filter.mp hq).1
    have := (List.mem_filter.mp hq).2
    simp at this
    exact ⟨by omega, hK.1 _ hz.2⟩
  · unfold prsT
    rw [List.length_map]
    refine Nat.le_trans (List.length_filter_le ..) ?_
    rw [List.length_zip]
    have := hK.2
    omega
/-! ### crossings -/
def crs (bs : List Bool) : List Int := (rnds (bs.length - 1)).filter fun i => bs.getD i.toNat false != bs.getD (i.toNat + 1) false
def ahd (b : Nat) (L C : List (List Int)) (K : List Nat) (k j : Int) : List Bool := (rowsT b L C K).map fun r => decide (ix k r < ix j r)
end
end K70

namespace K70
open PySem PySem.Spec PyProof.Rows L2 Sd
/-! ### like -/
theorem wpIff {α : Type} {o : Option α} {a : α} (e : o = some a) {Q : α → Prop} : Wp o Q ↔ Q a := by subst e; simp
@[simp] theorem sort_int {i : Int} {Q : Res → Prop} : Wp (m_law_sort [.int i]) Q ↔ Q (.ret (.int 2)) := wpIff (by rfl)
@[simp] theorem sort_list {ds : List D} {Q : Res → Prop} : Wp (m_law_sort [.list ds]) Q ↔ Q (.ret (.int 4)) := wpIff (by rfl)
@[simp] theorem sort_tup {ds : List D} {Q : Res → Prop} : Wp (m_law_sort [.tuple ds]) Q ↔ Q (.ret (.int 5)) := wpIff (by rfl)
@[simp] theorem sort_bool {b : Bool} {Q : Res → Prop} : Wp (m_law_sort [.bool b]) Q ↔ Q (.ret (.int 1)) := wpIff (by rfl)
theorem zip_self {α : Type} (f : α → D) : ∀ xs : List α, zipD (xs.map f) (xs.map f) = xs.map fun x => wP [f x, f x]
  | [] => rfl
  | x :: xs => by simp only [List.map_cons, zipD, zip_self f xs]
theorem in45 : cIn (.int 4) (.tuple [.int 4, .int 5]) = some true := by rfl
theorem in45' : cIn (.int 5) (.tuple [.int 4, .int 5]) = some true := by rfl
theorem in45n : cIn (.int 2) (.tuple [.int 4, .int 5]) = some false := by rfl
theorem in45m : cIn (.int 1) (.tuple [.int 4, .int 5]) = some false := by rfl
theorem like_int2 (i : Int) : m_law_like_r2 [.int i, .int i] = some (.ret (.bool true)) := by
  refine Wp.eq ?_
  simp [m_law_like_r2, cInE, in45n]
theorem like_int3 (i : Int) : m_law_like_r3 [.int i, .int i] = some (.ret (.bool true)) := by
  refine Wp.eq ?_
  simp [m_law_like_r3, cInE, in45n]
theorem like_bool4 (b : Bool) : m_law_like_r4 [.bool b, .bool b] = some (.ret (.bool true)) := by
  refine Wp.eq ?_
  simp [m_law_like_r4, cInE, in45m]
theorem like_run {α : Type} {m : MF} (f : α → D) (xs : List α) (hf : ∀ x ∈ xs, m [f x, f x] = some (.ret (.bool true))) {A B : Sd.Slot} {Q : List D × DE → Prop} (q : Q ([], [A, B, .no, .no])) :
    Wp (cRun (gT (gsCons (gN 2) (gsCons (gN 3) gsNil))) (fNotT (fB (fCall m (aCons (fVar 2) (aCons (fVar 3) aNil))))) (fC (.int 1)) [2, 3] (zipD (xs.map f) (xs.map f)) [A, B, .no, .no]) Q := by
  rw [zip_self]
  refine wp_cMap (fun x => wP [f x, f x]) xs (fun _ => false) (fun _ => .none) rfl (fun x hx => ?_) ?_
  · simp
    refine wp_of_eq (hf x hx) ?_
    simp
  · rw [List.filter_eq_nil_iff.mpr (by simp)]
    exact q
theorem like_seq3 {α : Type} (f : α → D) (xs : List α) (hl : xs.length ≤ 100000) (hf : ∀ x ∈ xs, m_law_like_r2 [f x, f x] = some (.ret (.bool true))) :
    m_law_like_r3 [.list (xs.map f), .list (xs.map f)] = some (.ret (.bool true)) ∧ m_law_like_r3 [.tuple (xs.map f), .tuple (xs.map f)] = some (.ret (.bool true)) := by
  constructor <;> refine Wp.eq ?_ <;> simp [m_law_like_r3, in45, in45', cInE] <;> exact ⟨by rw [zip_self]; simpa using hl, like_run f xs hf (by simp)⟩
theorem like_seq4 {α : Type} (f : α → D) (xs : List α) (hl : xs.length ≤ 100000) (hf : ∀ x ∈ xs, m_law_like_r3 [f x, f x] = some (.ret (.bool true))) :
    m_law_like_r4 [.list (xs.map f), .list (xs.map f)] = some (.ret (.bool true)) ∧ m_law_like_r4 [.tuple (xs.map f), .tuple (xs.map f)] = some (.ret (.bool true)) := by
  constructor <;> refine Wp.eq ?_ <;> simp [m_law_like_r4, in45, in45', cInE] <;> exact ⟨by rw [zip_self]; simpa using hl, like_run f xs hf (by simp)⟩
theorem like_ints {α : Type} (f : α → Int) (xs : List α) (hl : xs.length ≤ 100000) : m_law_like_r4 [.list (xs.map fun x => .int (f x)), .list (xs.map fun x => .int (f x))] = some (.ret (.bool true)) ∧ m_law_like_r4 [.tuple (xs.map fun x => .int (f x)), .tuple (xs.map fun x => .int (f x))] = some (.ret (.bool true)) :=
  like_seq4 (fun x => .int (f x)) xs hl fun x _ => like_int3 (f x)
theorem like_rows (R : List (List Int)) (hl : R.length ≤ 100000) (hr : ∀ r ∈ R, r.length ≤ 1000) : m_law_like_r4 [.list (R.map tI), .list (R.map tI)] = some (.ret (.bool true)) :=
  (like_seq4 tI R hl fun r h => (like_seq3 .int r (by have := hr r h; omega) fun i _ => like_int2 i).2).1
/-! ### the law's methods and tours -/
@[simp] theorem at4_0 {α : Type} (a b c d : α) : atI [a, b, c, d] 0 = some a := rfl
@[simp] theorem at4_1 {α : Type} (a b c d : α) : atI [a, b, c, d] 1 = some b := rfl
@[simp] theorem at4_2 {α : Type} (a b c d : α) : atI [a, b, c, d] 2 = some c := rfl
@[simp] theorem at4_3 {α : Type} (a b c d : α) : atI [a, b, c, d] 3 = some d := rfl
def hch (b : Nat) (e : Int) : List Int := (List.range (((b : Int) - 1 - e + 1) / 2).toNat).map fun (i : Nat) => e + (i : Int) * 2
theorem rg2_hch (b : Nat) (e : Int) : rg2D e ((b : Int) - 1) = (hch b e).map .int := by
  unfold rg2D hch
  rw [List.map_map]
  rfl
theorem hch_in {b : Nat} (h : b = 2 ∨ b = 3 ∨ b = 4 ∨ b = 5) (n : Int) : hch b (n % 2) ∈ chs b := by
  rcases Int.emod_two_eq n with e | e <;> rw [e] <;> rcases h with rfl | rfl | rfl | rfl <;> decide
def hunt (b : Nat) : List (List Int) := (rnds (2 * b)).map fun n => hch b (n % 2)
theorem hunt_ld {b : Nat} (h : b = 2 ∨ b = 3 ∨ b = 4 ∨ b = 5) {k : Nat} (hk : 1 ≤ k) : Ld b ((hunt b).take k) := by
  have hl : (hunt b).length = 2 * b := by simp [hunt, rnds_len]
  have hc : ∀ c ∈ (hunt b).take k, c ∈ chs b := by
    intro c hc
    have := List.mem_of_mem_take hc
    obtain ⟨n, _, rfl⟩ := List.mem_map.mp this
    exact hch_in h n
  exact ⟨hc, by rw [List.length_take, hl]; omega, by rw [List.length_take, hl]; omega⟩
theorem w_method {cup : List D} (hc : CupOk cup) {Q : D × List D → Prop} (q : ∀ b L C cup', Md b L C → b ≤ 5 → C.length ≤ 2 → CupOk cup' → Q (mD b L C, cup')) : Wp (m_law_method cup []) Q := by
  simp [m_law_method]
  refine w_some hc (by simp) (by simp) fun e x1 he c1 => ?_
  obtain ⟨b, hb4, rfl⟩ : ∃ b : Nat, (b = 2 ∨ b = 3 ∨ b = 4 ∨ b = 5) ∧ e = .int (b : Nat) := by
    simp at he
    rcases he with rfl | rfl | rfl | rfl
    · exact ⟨2, by simp, rfl⟩
    · exact ⟨3, by simp, rfl⟩
    · exact ⟨4, by simp, rfl⟩
    · exact ⟨5, by simp, rfl⟩
  have hb : isB b := by
    unfold isB
    omega
  have e2 : (2 : Int) * (b : Int) = ((2 * b : Nat) : Int) := by push_cast; rfl
  have e3 : rgOk 0 (2 * (b : Int)) = true := by rw [e2]; exact rg_ok (by omega)
  have e4 : rgD 0 (2 * (b : Int)) = (rnds (2 * b)).map .int := by rw [e2, rg_rn]
  simp [e3, e4, rnds_len]
  refine ⟨.inl (by decide), by omega, ?_⟩
  refine wp_cAll .int (rnds (2 * b)) (fun n => tI (hch b (n % 2))) rfl (fun n hn => ?_) ?_
  · have hr := rnds_mem hn
    have h2 := Int.emod_two_eq n
    simp
    rw [Int.fmod_eq_emod_of_nonneg n (by omega : (0 : Int) ≤ 2)]
    refine ⟨?_, ?_⟩
    · unfold rgOk
      simp
      omega
    · rw [rg2_hch]
      rfl
  simp
  refine w_lead hb c1 (by omega) (by omega) fun L1 x2 hL1 c2 => ?_
  simp
  refine w_lead hb c2 (by omega) (by omega) fun L2 x3 hL2 c3 => ?_
  simp
  have e5 : (rnds (2 * b)).map (fun n => tI (hch b (n % 2))) = (hunt b).map tI := by simp [hunt]
  have e6 : Sd.cutD ((hunt b).map tI) none (some 2) = ((hunt b).take 2).map tI := by rw [List.map_take]; exact cut_to _ 2
  rw [e5, cut_to, e6, ← List.map_take]
  refine w_some c3 (by simp) (by simp) fun e x4 he c4 => ?_
  obtain ⟨L, hL, rfl⟩ : ∃ L, Ld b L ∧ e = ldD L := by
    simp at he
    rcases he with rfl | rfl | rfl | rfl | rfl
    · refine ⟨hunt b, ?_, rfl⟩
      have := hunt_ld hb4 (k := 2 * b) (by omega)
      rwa [List.take_of_length_le (by simp [hunt, rnds_len])] at this
    · exact ⟨_, hunt_ld hb4 (k := b) (by omega), by simp [ldD]⟩
    · exact ⟨_, hunt_ld hb4 (k := 2) (by omega), by simp [ldD]⟩
    · exact ⟨L1, hL1, rfl⟩
    · exact ⟨L2, hL2, rfl⟩
  refine w_roll c4 (by omega) (by omega) fun n x5 hn c5 => ?_
  simp [rg_ok (show n ≤ 1000 by omega), rg_rn, rnds_len]
  refine ⟨by omega, ?_⟩
  refine wp_cRun (fun rem acc δ => ∃ (y : List D) (C : List (List Int)), acc = C.map tI ∧ CupOk y ∧ (∀ c ∈ C, c ∈ chs b) ∧ C.length + rem.length ≤ 2 ∧ δ = [.ow (.lst y), .sh (.int (b : Nat)), .sh (.tuple ((hunt b).map tI)), .sh (ldD L), .no, .no]) (acc := []) ⟨x5, [], rfl, c5, by simp, by simp [rnds_len]; omega, rfl⟩ ?_ ?_
  · rintro d ds acc δ ⟨y, C, rfl, cy, hC, hl, rfl⟩
    simp [itemK]
    refine w_change hb cy fun c y2 hcm c2 => ?_
    simp at hl
    refine ⟨y2, C ++ [c], by simp, c2, ?_, by simp; omega, rfl⟩
    intro z hz
    rcases List.mem_append.mp hz with hz | hz
    · exact hC z hz
    · simp at hz
      rw [hz]
      exact hcm
  · rintro ys δ ⟨y, C, e, cy, hC, hl, rfl⟩
    simp at e hl
    subst e
    simp
    exact q b L C y ⟨hb, hL, hC, by omega⟩ (by omega) hl cy
theorem w_tour {cup : List D} (hc : CupOk cup) {n : Nat} (hn : n ≤ 12) {Q : D × List D → Prop} (q : ∀ b L C K cup', Md b L C → b ≤ 5 → C.length ≤ 2 → Cm (wys L C) K → K.length ≤ n → CupOk cup' → Q (tourD b L C K, cup')) : Wp (m_law_tour cup [.int (n : Int)]) Q := by
  simp [m_law_tour]
  refine w_method hc fun b L C x1 h hb5 hC c1 => ?_
  simp [mD]
  refine w_roll c1 (by omega) (by omega) fun m x2 hm c2 => ?_
  simp [rg_ok (show m ≤ 1000 by omega), rg_rn, rnds_len]
  refine ⟨by omega, ?_⟩
  refine wp_cRun (fun rem acc δ => ∃ (y : List D) (K : List Nat), acc = K.map (fun n : Nat => (.int (n : Int) : D)) ∧ CupOk y ∧ (∀ k ∈ K, k < (wys L C).length) ∧ K.length + rem.length ≤ m ∧ δ = [.ow (.lst y), .sh (.int (n : Nat)), .sh (.int (m : Nat)), .no, .sh (.int (b : Nat)), .sh (ldD L), .sh (ldD C), .no]) (acc := []) ⟨x2, [], rfl, c2, by simp, by simp [rnds_len], rfl⟩ ?_ ?_
  · rintro d ds acc δ ⟨y, K, rfl, cy, hK, hl, rfl⟩
    have wl := wys_len L C
    simp [itemK]
    refine w_roll cy (by omega) (by omega) fun t y2 ht c2 => ?_
    simp at hl ⊢
    have fin : ∀ (z : Nat) (y3 : List D), z < (wys L C).length → CupOk y3 → ∃ (y : List D) (K' : List Nat), K.map (fun n : Nat => (.int (n : Int) : D)) ++ [.int (z : Int)] = K'.map (fun n : Nat => (.int (n : Int) : D)) ∧ CupOk y ∧ (∀ k ∈ K', k < (wys L C).length) ∧ K'.length + ds.length ≤ m ∧ y3 = y := by
      intro z y3 hz c3
      refine ⟨y3, K ++ [z], by simp, c3, ?_, by simp; omega, rfl⟩
      intro k hk
      rcases List.mem_append.mp hk with hk | hk
      · exact hK k hk
      · simp at hk
        rw [hk]
        exact hz
    by_cases h0 : t = 0
    · subst h0
      simp [len_ld]
      refine w_roll c2 (by omega) (by omega) fun z y3 hz c3 => ?_
      simp
      exact fin z y3 (by omega) c3
    · simp [h0]
      exact fin 0 y2 (by omega) c2
  · rintro ys δ ⟨y, K, e, cy, hK, hl, rfl⟩
    simp at e hl
    subst e
    simp
    have := q b L C K y h hb5 hC ⟨hK, by omega⟩ (by omega) cy
    simpa [tourD, kD, tI, Function.comp_def] using this
section
variable {b : Nat} {L C : List (List Int)} (h : Md b L C)
include h
theorem law_ways_ok {K : List Nat} : m_law_ways [tourD b L C K] = some (.ret (.list ((wys L C).map ldD))) := by
  refine Wp.eq ?_
  have hl := h.cl
  have hi := h.ld.hi
  simp [m_law_ways]
  rw [show tourD b L C K = .tuple [.int (b : Nat), .tuple (L.map tI), .tuple (C.map tI), kD K] from rfl]
  simp
  refine ⟨by omega, ?_⟩
  refine wp_cAll tI C (fun c => ldD (L.dropLast ++ [c])) rfl (fun c hc => ?_) ?_
  · simp
    have e : Sd.cutD (L.map tI) none (some (-1)) = (L.dropLast).map tI := by
      unfold Sd.cutD
      have e1 : HT.sIx (L.map tI).length (L.map tI).length (some (-1)) = L.length - 1 := by
        show (if (-1 : Int) < 0 then ((-1 : Int) + ((L.map tI).length : Int)).toNat else min (-1 : Int).toNat (L.map tI).length) = _
        rw [if_pos (by omega), List.length_map]
        omega
      have e2 : HT.sIx (L.map tI).length 0 none = 0 := rfl
      rw [e1, e2]
      simp [List.dropLast_eq_take, List.map_take]
    rw [e]
    simp [ldD]
    omega
  · simp [wys, ldD]
    omega
variable {K : List Nat} (hK : Cm (wys L C) K)
include hK
theorem law_rows_ok : m_law_rows [tourD b L C K] = some (.ret (.list ((rowsT b L C K).map tI))) := by
  refine Wp.eq ?_
  have hl := hK.2
  simp [m_law_rows]
  rw [show tourD b L C K = .tuple [.int (b : Nat), ldD L, ldD C, kD K] from rfl]
  simp
  refine wp_of_eq (rounds_ok h.hb).2 ?_
  simp [kD]
  refine wp_forT (fun n : Nat => (.int (n : Int) : D)) (fun rem δ => ∃ (don : List Nat) (s2 : Sd.Slot), K = don ++ rem ∧ δ = [.sh (tourD b L C K), .sh (.list ((rowsT b L C don).map tI)), s2]) K (by rfl) ⟨[], .no, rfl, by simp [rowsT, rowsC, tourD, kD]⟩ ?_ ?_
  · rintro k rem δ ⟨don, s2, e, rfl⟩
    have hd : Cm (wys L C) don := ⟨fun j hj => hK.1 j (by rw [e]; simp [hj]), by have := congrArg List.length e; simp at this; omega⟩
    have hkl : k < (wys L C).length := hK.1 k (by rw [e]; simp)
    have hrl := rowsT_len h hd
    simp [l_law_rows_1]
    refine wp_of_eq ((Sd.atI_last _).trans (rowsT_last h hd)) ?_
    refine wp_of_eq (law_ways_ok h) ?_
    simp
    refine wp_atI hkl ?_
    rw [wys_get hkl]
    have hw := wy_ld (wz_of h) hkl
    have hp := fin_perm (W := wys L C) don (rnds b)
    refine wp_of_eq (rung_ok h.hb hw.ch (hp.length_eq.trans (rnds_len b)) (by have := hw.hi; omega)) ?_
    have hr := runs_len (wy (wys L C) k) (fin (wys L C) (rnds b) don)
    have := hw.hi
    simp [hr]
    refine ⟨by omega, don ++ [k], by rw [e]; simp, ?_⟩
    simp [rowsT, rowsC_app, rowsC]
  · rintro δ ⟨don, s2, e, rfl⟩
    simp at e
    subst e
    simp
end
end K70

namespace K70
open PySem PySem.Spec PyProof.Rows L2 Sd
section
variable {b : Nat} {L C : List (List Int)} (h : Md b L C) {K : List Nat} (hK : Cm (wys L C) K)
include h hK
theorem law_heads_ok : m_law_heads [tourD b L C K] = some (.ret (.list ((rnds b :: headsC (wys L C) (rnds b) K).map tI))) := by
  refine Wp.eq ?_
  have hl := hK.2
  simp [m_law_heads]
  rw [show tourD b L C K = .tuple [.int (b : Nat), ldD L, ldD C, kD K] from rfl]
  simp
  refine wp_of_eq (rounds_ok h.hb).2 ?_
  simp [kD]
  refine wp_forT (fun n : Nat => (.int (n : Int) : D)) (fun rem δ => ∃ (don : List Nat) (s2 : Sd.Slot), K = don ++ rem ∧ δ = [.sh (tourD b L C K), .ow (.lst ((rnds b :: headsC (wys L C) (rnds b) don).map tI)), s2]) K (by rfl) ⟨[], .no, rfl, by simp [headsC, tourD, kD]⟩ ?_ ?_
  · rintro k rem δ ⟨don, s2, e, rfl⟩
    have hdl : don.length + 1 ≤ 40 := by have := congrArg List.length e; simp at this; omega
    have hkl : k < (wys L C).length := hK.1 k (by rw [e]; simp)
    have hh := headsC_len (wys L C) don (rnds b)
    have hlast := headsC_last (wys L C) don (rnds b)
    simp [l_law_heads_1]
    refine wp_of_eq ((Sd.atI_last _).trans (c := some (tI (fin (wys L C) (rnds b) don))) ?_) ?_
    · rw [show tI (rnds b) :: (headsC (wys L C) (rnds b) don).map tI = (rnds b :: headsC (wys L C) (rnds b) don).map tI from rfl, List.getLast?_map, hlast]
      rfl
    refine wp_of_eq (law_ways_ok h) ?_
    simp
    refine wp_atI hkl ?_
    rw [wys_get hkl]
    have hw := wy_ld (wz_of h) hkl
    have hp := fin_perm (W := wys L C) don (rnds b)
    refine wp_of_eq (led_ok h.hb hw (hp.length_eq.trans (rnds_len b))) ?_
    simp [hh]
    refine ⟨by omega, don ++ [k], by rw [e]; simp, ?_⟩
    simp [headsC_app, headsC]
  · rintro δ ⟨don, s2, e, rfl⟩
    simp at e
    subst e
    simp
end
end K70

namespace K70
open PySem PySem.Spec PyProof.Rows L2 Sd
def rep (n : Nat) (xs : List D) : List D := (List.replicate n xs).flatten
theorem wp_rep {xs : List D} {j : Int} {Q : D → Prop} : Wp (opMul (.tuple xs) (.int j)) Q ↔ (-1000 ≤ j ∧ j ≤ 1000 ∧ xs.length ≤ 100) ∧ Q (.tuple (rep j.toNat xs)) := wp_mul_t
theorem rep_len (n : Nat) (xs : List D) : (rep n xs).length = n * xs.length := by simp [rep]
/-- no tour -/
def NoT (v : D) : Prop := m_is_tour [v] = some (.ret (.bool false))
theorem not_bells {x l c k : D} (h : m_could_be_bells [x] = some (.ret (.bool false))) : NoT (.tuple [x, l, c, k]) := by
  refine Wp.eq ?_
  simp [m_is_tour, isT]
  refine wp_of_eq h ?_
  simp
section
variable {b : Nat} (hb : isB b)
include hb
theorem not_lead {l c k : D} (h : m_could_lead [.int (b : Nat), l] = some (.ret (.bool false))) : NoT (.tuple [.int (b : Nat), l, c, k]) := by
  refine Wp.eq ?_
  simp [m_is_tour, isT]
  refine wp_of_eq (bells_could hb) ?_
  simp
  refine wp_of_eq h ?_
  simp
theorem not_call {l c k : D} (h : m_could_lead [.int (b : Nat), l] = some (.ret (.bool true))) (h2 : m_could_call [.int (b : Nat), c] = some (.ret (.bool false))) : NoT (.tuple [.int (b : Nat), l, c, k]) := by
  refine Wp.eq ?_
  simp [m_is_tour, isT]
  refine wp_of_eq (bells_could hb) ?_
  simp
  refine wp_of_eq h ?_
  simp
  refine wp_of_eq h2 ?_
  simp
theorem not_comp {l c k : D} (h : m_could_lead [.int (b : Nat), l] = some (.ret (.bool true))) (h2 : m_could_call [.int (b : Nat), c] = some (.ret (.bool true))) (h3 : m_could_compose [c, k] = some (.ret (.bool false))) : NoT (.tuple [.int (b : Nat), l, c, k]) := by
  refine Wp.eq ?_
  simp [m_is_tour, isT]
  refine wp_of_eq (bells_could hb) ?_
  simp
  refine wp_of_eq h ?_
  simp
  refine wp_of_eq h2 ?_
  simp
  refine wp_of_eq h3 ?_
  simp
end
section
variable {b : Nat} {L C : List (List Int)} (h : Md b L C)
include h
theorem lead_yes : m_could_lead [.int (b : Nat), ldD L] = some (.ret (.bool true)) := by
  have := could_lead_eq b _ (lead_nd h.hb h.ld)
  rwa [lead_could h.hb h.ld] at this
theorem comp_no {v : D} (hv : ND1 v) (ha : areIx ((C.length : Int) + 1) v = false) : m_could_compose [ldD C, v] = some (.ret (.bool false)) := by
  refine Wp.eq ?_
  have hc := h.cl
  have e := are_indices_eq v ((C.length : Int) + 1) hv
  rw [ha] at e
  simp [m_could_compose]
  rw [show ldD C = .tuple (C.map tI) from rfl]
  simp [e]
/-- the odd values -/
def odds (b : Nat) (L C : List (List Int)) (K : List Nat) : List D :=
  [.none, .tuple [.int (b : Nat), ldD L, ldD C], .list [.int (b : Nat), ldD L, ldD C, kD K], .tuple [.int 7, ldD L, ldD C, .tuple []], .tuple [.int 1, ldD L, .tuple [], .tuple []], .tuple [.int (b : Nat), .tuple [], ldD C, .tuple []],
    .tuple [.int (b : Nat), .list (L.map tI), ldD C, .tuple []], .tuple [.int (b : Nat), ldD L, ldD C, .tuple [.int ((C.length : Int) + 1)]],
    .tuple [.int (b : Nat), ldD L, ldD C, .tuple [.bool true]],
    .tuple [.int (b : Nat), ldD L, ldD C, .list [.int 0]], .tuple [.int (b : Nat), ldD L, ldD C, .tuple (rep 41 [.int 0])], .tuple [.int (b : Nat), ldD L, .tuple [.tuple [.int ((b : Int) - 1)]], .tuple []],
    .tuple [.int (b : Nat), .tuple (rep 25 (L.map tI)), ldD C, .tuple []], .tuple [.int (b : Nat), ldD L, .tuple (rep 3 (C.map tI) ++ rep 6 [.tuple []]), .tuple []], .tuple [.int (b : Nat), ldD L, .none, .tuple []],
    .tuple [.bool true, ldD L, ldD C, .tuple []], .tuple [.int (b : Nat), ldD L, ldD C, .tuple [.int (-1)]], .tuple [.int (b : Nat), .tuple [.tuple [.int 0, .int 0]], ldD C, .tuple []]]
theorem odd_ok {K : List Nat} : m_law_odd_tours [tourD b L C K] = some (.ret (.list (odds b L C K))) := by
  refine Wp.eq ?_
  have hc := h.cl
  have hi := h.ld.hi
  simp [m_law_odd_tours]
  rw [show tourD b L C K = .tuple [.int (b : Nat), .tuple (L.map tI), .tuple (C.map tI), kD K] from rfl]
  simp [t_law_odd_tours_1]
  simp [t_law_odd_tours_2]
  simp [t_law_odd_tours_3]
  simp [t_law_odd_tours_4, -wp_mul_t, wp_rep]
  simp [t_law_odd_tours_5, -wp_mul_t, wp_rep, rep_len]
  refine ⟨by omega, by omega, by omega, ?_⟩
  simp [t_law_odd_tours_6, givD]
  rfl
theorem couldCh_no : couldCh (b : Int) (.tuple [.int ((b : Int) - 1)]) = false := by
  rcases h.hb with rfl | rfl | rfl | rfl | rfl <;> rfl
theorem all_no {K : List Nat} : ∀ v ∈ odds b L C K, NoT v := by
  have hb := h.hb
  have hc := h.cl
  have lo := h.ld.lo
  have hi := h.ld.hi
  have ly := lead_yes h
  have cy := could_call_ok h
  have nd0 : ∀ d : D, (∀ kvs, d ≠ .dict kvs) → ND0 d := fun d q => q
  intro v hv
  unfold odds at hv
  simp only [List.mem_cons, List.not_mem_nil, or_false] at hv
  rcases hv with rfl | rfl | rfl | rfl | rfl | rfl | rfl | rfl | rfl | rfl | rfl | rfl | rfl | rfl | rfl | rfl | rfl | rfl
  · rfl
  · rfl
  · rfl
  · exact not_bells rfl
  · exact not_bells rfl
  · refine not_lead hb ?_
    have := could_lead_eq b (.tuple []) ⟨fun _ z => (by cases z), fun ds z => (by cases z; simp)⟩
    exact this.trans rfl
  · refine not_lead hb ?_
    have := could_lead_eq b (.list (L.map tI)) ⟨fun _ z => (by cases z), fun ds z => (by cases z)⟩
    exact this.trans rfl
  · refine not_comp hb ly cy (comp_no h (nd1_tI [(C.length : Int) + 1] (by simp)) ?_)
    simp [areIx, isIx]
  · refine not_comp hb ly cy (comp_no h ⟨fun _ z => (by cases z), fun ds z => (by cases z; exact ⟨by simp, fun e he => by simp at he; subst he; intro _ z; cases z⟩)⟩ ?_)
    rfl
  · refine not_comp hb ly cy (comp_no h ⟨fun _ z => (by cases z), fun ds z => (by cases z)⟩ ?_)
    rfl
  · refine not_comp hb ly cy ?_
    refine Wp.eq ?_
    have e := are_indices_eq (.tuple (rep 41 [.int 0])) ((C.length : Int) + 1) (nd1_tI (List.replicate 41 0) (by simp))
    have e2 : areIx ((C.length : Int) + 1) (.tuple (rep 41 [.int 0])) = true := by
      show (rep 41 [.int 0]).all _ = true
      have : (rep 41 [(.int 0 : D)]) = (List.replicate 41 (0 : Int)).map .int := by rfl
      rw [this]
      exact all_ix fun i hi => by
        have := List.eq_of_mem_replicate hi
        omega
    rw [e2] at e
    simp [m_could_compose]
    rw [show ldD C = .tuple (C.map tI) from rfl]
    simp [e, rep_len]
  · refine not_call hb ly ?_
    refine Wp.eq ?_
    simp [m_could_call, isT]
    have := could_change_eq (b : Int) (.tuple [.int ((b : Int) - 1)]) (nd1_tI [(b : Int) - 1] (by simp))
    rw [couldCh_no h] at this
    refine wp_cAll id [.tuple [.int ((b : Int) - 1)]] (fun _ => .bool false) (by simp) (fun x hx => ?_) ?_
    · simp at hx
      subst hx
      simp [this]
    · exact ⟨_, rfl, rfl⟩
  · refine not_lead hb ?_
    have := could_lead_eq b (.tuple (rep 25 (L.map tI))) ?_
    · refine this.trans ?_
      simp [couldLead, rep_len]
      omega
    · refine ⟨fun _ z => (by cases z), fun ds z => ?_⟩
      cases z
      refine ⟨by rw [rep_len, List.length_map]; omega, fun e he => ?_⟩
      unfold rep at he
      obtain ⟨l, hl, he⟩ := List.mem_flatten.mp he
      have := List.eq_of_mem_replicate hl
      subst this
      obtain ⟨c, hcm, rfl⟩ := List.mem_map.mp he
      have := (ch_ok hb (h.ld.ch c hcm)).2
      exact nd1_tI c (by omega)
  · refine not_call hb ly ?_
    refine Wp.eq ?_
    simp [m_could_call, isT, rep_len]
    intro z
    omega
  · refine not_call hb ly ?_
    rfl
  · exact not_bells rfl
  · refine not_comp hb ly cy (comp_no h (nd1_tI [-1] (by simp)) ?_)
    simp [areIx, isIx]
  · refine not_lead hb ?_
    have := could_lead_eq b (.tuple [tI [0, 0]]) ⟨fun _ z => (by cases z), fun ds z => (by cases z; exact ⟨by simp, fun e he => by simp at he; subst he; exact nd1_tI [0, 0] (by simp)⟩)⟩
    refine this.trans ?_
    simp [couldLead, couldCh, tI, spaced]
end
end K70

namespace K70
open PySem PySem.Spec PyProof.Rows L2 Sd
theorem shn_tour : shn 64 (PyData.str (Str.ofString "tour")) = true := by kernel_rfl
theorem shn_bell : shn 64 (PyData.str (Str.ofString "bell")) = true := by kernel_rfl
theorem no_check {v : D} (h : NoT v) : m_check_tour [v] = some (.exc "InvalidTour" none) := by
  refine Wp.eq ?_
  simp [m_check_tour]
  refine wp_of_eq h ?_
  simp
theorem no_heads {v : D} (h : NoT v) : m_tour_heads [v] = some (.exc "InvalidTour" none) := by
  refine Wp.eq ?_
  simp [m_tour_heads]
  refine wp_of_eq (no_check h) ?_
  simp
theorem no_path {v k : D} (h : NoT v) : m_tour_path [v, k] = some (.exc "InvalidTour" none) := by
  refine Wp.eq ?_
  simp [m_tour_path, m_check_tour_and_bell]
  refine wp_of_eq (no_check h) ?_
  simp
theorem pick_tour : pickK ktlaw_try "InvalidTour" "other" kl_law_try = some "tour" := by rfl
theorem pick_bell : pickK ktlaw_try "InvalidBell" "other" kl_law_try = some "bell" := by rfl
section
variable {b : Nat} {L C : List (List Int)} (h : Md b L C) {K : List Nat} (hK : Cm (wys L C) K)
include h hK
theorem no_bell {k : D} (hk : isIx b k = false) (hd : ND0 k) : m_tour_path [tourD b L C K, k] = some (.exc "InvalidBell" none) := by
  refine Wp.eq ?_
  simp [m_tour_path, m_check_tour_and_bell]
  refine wp_of_eq (check_tour_ok h hK) ?_
  simp
  refine wp_of_eq (show ixE (tourD b L C K) (.int 0) = some (.int (b : Nat)) from rfl) ?_
  simp [m_check_bell]
  refine wp_of_eq (is_index_eq k b hd) ?_
  simp [hk]
omit h hK in
theorem odd_step {v : D} (hv : NoT v) {s0 s1 s2 s4 s5 s6 s7 s8 s9 : Sd.Slot} {Q : Out → Prop} (q : Q (.nx [s0, s1, s2, .sh v, s4, s5, s6, s7, s8, s9, .no])) : Wp (l_law_2 [s0, s1, s2, .sh v, s4, s5, s6, s7, s8, s9, .no]) Q := by
  simp [l_law_2]
  refine wp_of_eq hv ?_
  simp
  refine wp_of_eq (no_heads hv) ?_
  simp
  refine wp_of_eq pick_tour ?_
  simp
  refine ⟨shn_tour, ?_⟩
  refine wp_of_eq (no_path hv) ?_
  simp
  refine wp_of_eq pick_tour ?_
  simp
  exact ⟨shn_tour, q⟩
theorem bell_step {v : D} (hk : isIx b v = false) (hd : ND0 v) {s0 s1 s2 s4 s5 s7 s8 s9 : Sd.Slot} {Q : Out → Prop} (q : Q (.nx [s0, s1, s2, .sh v, s4, s5, .sh (tourD b L C K), s7, s8, s9, .no])) : Wp (l_law_1 [s0, s1, s2, .sh v, s4, s5, .sh (tourD b L C K), s7, s8, s9, .no]) Q := by
  simp [l_law_1]
  refine wp_of_eq (no_bell h hK hk hd) ?_
  simp
  refine wp_of_eq pick_bell ?_
  simp
  exact ⟨shn_bell, q⟩
theorem path_step {k : Int} (hk : k ∈ rnds b) {s0 s1 s2 s3 s4 s5 s9 : Sd.Slot} {Q : Out → Prop} (q : Q (.nx [s0, s1, s2, s3, s4, s5, .sh (tourD b L C K), .sh (.int k), .sh (.list ((rowsT b L C K).map tI)), s9, .no])) :
    Wp (l_law_4 [s0, s1, s2, s3, s4, s5, .sh (tourD b L C K), .sh (.int k), .sh (.list ((rowsT b L C K).map tI)), s9, .no]) Q := by
  have hl := rowsT_len h hK
  simp [l_law_4]
  refine wp_of_eq (tour_path_ok h hK hk) ?_
  simp
  refine ⟨by omega, ?_⟩
  refine wp_cAll tI (rowsT b L C K) (fun r => .int (ix k r)) rfl (fun r hr => ?_) ?_
  · have hp := rowsT_perm h hK r hr
    simp [ix]
    exact hp.mem_iff.mpr hk
  simp
  refine wp_of_eq (like_ints (fun r => ix k r) (rowsT b L C K) (by omega)).1 ?_
  simpa using q
end
/-! ### the law -/
theorem turn_done {ns : List Int} {cup : List D} (hc : CupOk cup) {s2 s3 s6 s7 s8 s9 : Sd.Slot} {Q : Out → Prop}
    (q : ∀ cup' b L C K s7 s8 s9, Md b L C → Cm (wys L C) K → CupOk cup' → Q (.nx [.scr ns, .ow (.lst cup'), s2, s3, .no, .no, .sh (tourD b L C K), s7, s8, s9, .no])) :
    Wp (l_law_3 [.scr ns, .ow (.lst cup), s2, s3, .no, .no, s6, s7, s8, s9, .no]) Q := by
  simp [l_law_3]
  refine w_tour hc (n := 8) (by omega) fun b L C K c1 h hb5 hC hK hKl cc => ?_
  have b6 := b_le h.hb
  have hl := hK.2
  have hh := headsC_len (wys L C) K (rnds b)
  simp [l_law_3t1]
  refine wp_of_eq (law_rows_ok h hK) ?_
  simp
  refine wp_of_eq (law_heads_ok h hK) ?_
  simp [l_law_3t2]
  refine wp_of_eq (is_tour_ok h hK) ?_
  simp
  refine wp_of_eq (tour_heads_ok h hK) ?_
  simp
  have lk := like_rows (rnds b :: headsC (wys L C) (rnds b) K) (by simp [hh]; omega) (fun r hr => by
    rcases List.mem_cons.mp hr with rfl | hr
    · rw [rnds_len]; omega
    · have := (headsC_perm (wys L C) K (rnds b) r hr).length_eq
      rw [this, rnds_len]
      omega)
  simp only [List.map_cons] at lk
  refine wp_of_eq lk ?_
  simp [l_law_3t3]
  refine wp_of_eq (show ixE (tourD b L C K) (.int 0) = some (.int (b : Nat)) from rfl) ?_
  simp [rg_ok (show b ≤ 1000 by omega), rg_rn]
  refine wp_forT .int (fun rem δ => ∃ (s7 : Sd.Slot), (∀ z ∈ rem, z ∈ rnds b) ∧ δ = [.scr ns, .ow (.lst c1), s2, s3, .no, .no, .sh (tourD b L C K), s7, .sh (.list ((rowsT b L C K).map tI)), .sh (.list ((rnds b :: headsC (wys L C) (rnds b) K).map tI)), .no]) (rnds b) (by rfl) ⟨s7, fun z hz => hz, rfl⟩ ?_ ?_
  · rintro k rem δ ⟨s7, hr, rfl⟩
    have hk := hr k (List.mem_cons_self ..)
    simp
    refine path_step h hK hk ?_
    simp
    exact fun z hz => hr z (List.mem_cons_of_mem _ hz)
  · rintro δ ⟨s7, _, rfl⟩
    simp
    exact q _ b L C K _ _ _ h hK cc
theorem rest_ok (ns : List Int) (xs : List D) (s2 s3 s6 s7 s8 s9 : Sd.Slot) : lawRes (t_law_4 [.scr ns, .ow (.lst xs), s2, s3, .no, .no, s6, s7, s8, s9, .no]) = some (.bool true) := by
  kernel_rfl
theorem math (ns : List Int) (hl : ns.length ≤ 63) : m_law ns = some (.bool true) := by
  refine Wp.eq ?_
  simp [m_law]
  refine w_cup hl fun xs h0 => ?_
  simp [t_law_1]
  refine ⟨rfl, ?_⟩
  refine wp_for (fun rem δ => ∃ (cup : List D) (s2 s3 s6 s7 s8 s9 : Sd.Slot), CupOk cup ∧ (rem = [] → ∃ b L C K, Md b L C ∧ Cm (wys L C) K ∧ s6 = .sh (tourD b L C K)) ∧ δ = [.scr ns, .ow (.lst cup), s2, s3, .no, .no, s6, s7, s8, s9, .no]) ⟨xs, .no, .no, .no, .no, .no, .no, h0, (fun z => by cases z), rfl⟩ ?_ ?_
  · rintro d rem δ ⟨cup, s2, s3, s6, s7, s8, s9, hc, _, rfl⟩
    simp
    refine turn_done hc fun cup' b L C K s7 s8 s9 h hK c2 => ?_
    simp
    exact ⟨cup', c2, .sh d, s3, .sh (tourD b L C K), fun _ => ⟨b, L, C, h, K, hK, rfl⟩, rfl, rfl, rfl, rfl⟩
  · rintro δ ⟨cup, s2, s3, s6, s7, s8, s9, hc, hz, rfl⟩
    obtain ⟨b, L, C, K, h, hK, rfl⟩ := hz rfl
    simp [t_law_2]
    refine wp_of_eq (odd_ok h) ?_
    simp
    refine wp_for (fun rem δ => ∃ (s3 : Sd.Slot), (∀ v ∈ rem, NoT v) ∧ δ = [.scr ns, .ow (.lst cup), s2, s3, .no, .no, .sh (tourD b L C K), s7, s8, s9, .no]) ⟨s3, all_no h, rfl⟩ ?_ ?_
    · rintro v rem δ ⟨s3, hv, rfl⟩
      simp
      refine odd_step (hv v (List.mem_cons_self ..)) ?_
      simp
      exact fun z hz => hv z (List.mem_cons_of_mem _ hz)
    · rintro δ ⟨s3, _, rfl⟩
      simp [t_law_3]
      refine wp_of_eq (show ixE (tourD b L C K) (.int 0) = some (.int (b : Nat)) from rfl) ?_
      refine wp_for (fun rem δ => ∃ (s3 : Sd.Slot), (∀ v ∈ rem, isIx b v = false ∧ ND0 v) ∧ δ = [.scr ns, .ow (.lst cup), s2, s3, .no, .no, .sh (tourD b L C K), s7, s8, s9, .no]) ⟨s3, ?_, rfl⟩ ?_ ?_
      · intro v hv
        simp at hv
        rcases hv with rfl | rfl | rfl | rfl | rfl
        · exact ⟨rfl, fun _ z => (by cases z)⟩
        · exact ⟨by simp [isIx], fun _ z => (by cases z)⟩
        · exact ⟨by simp [isIx], fun _ z => (by cases z)⟩
        · exact ⟨rfl, fun _ z => (by cases z)⟩
        · exact ⟨rfl, fun _ z => (by cases z)⟩
      · rintro v rem δ ⟨s3, hv, rfl⟩
        simp
        have := hv v (List.mem_cons_self ..)
        refine bell_step h hK this.1 this.2 ?_
        simp
        exact fun z hz => hv z (List.mem_cons_of_mem _ hz)
      · rintro δ ⟨s3, _, rfl⟩
        exact wp_lawK_of (rest_ok ns cup s2 s3 _ s7 s8 s9)
end K70

namespace K70
open PySem PySem.Spec PyProof.Rows L2 Sd
theorem law_at {w : World} {K : PySem.W.Frag} {mg : Str → Option Value} {h : Heap} {fa f c Pt : Addr} {oc : Value} {od an : Option Addr} {osl : Array (Option Value)} {kV doc pm ct : Value} (KX : K.In h) (G : h.Ns mainGlobals mg) (hfa : mg "law" = some (.ref fa)) (E : Env K mg)
    (hP : h.get? Pt = some (PySem.W.tabObj #[])) (a : PySem.W.nsIn K mainGlobals "law" = some (some (.ref f))) (l : K.lookup f = some ⟨oc, od, .func (PySem.W.fnOf "law" "law" (defArgs (topS 69)) (defBody (topS 69)) (defScope (topS 69)) .none kV doc pm an (.ref c) ct), osl⟩)
    (hc : PySem.W.codeIn K (.ref c) "law" = true) (hk : PySem.W.codeHdIn K c Pt = true) (hn : K.lookup Pt = none) (hg : mainGlobals ≠ Pt) : LamX.LawAtS PySem.Challenge.rw_rungonce_k70_whole_tours_with_paths w K (L2.CX PySem.Challenge.rw_rungonce_k70_whole_tours_with_paths.prog w) 12 63 "_law_script" mg fa h := by
  have e := hfa.symm.trans (PySem.W.mg_of KX G a)
  cases e
  letI tt : Sd.TabSet := ⟨[(Pt, "law.<locals>.<lambda>")]⟩
  refine ⟨_, [(c, Pt)], spL K m_law, fun p hp => ?_, fun p hp => ?_, fun p hp => ?_, fun s u => .of_eq rfl, fun H a ns hl _ hH hS => law_start (fun p hp => ?_) hS (math ns hl), fun base _ _ hB => d_law E l hc ⟨hB (c, Pt) (List.mem_cons_self ..), List.mem_cons_self .., fun p hp _ => ?_⟩⟩
  · rcases List.mem_singleton.mp hp with rfl
    exact hP
  · rcases List.mem_singleton.mp hp with rfl
    exact hn
  · rcases List.mem_singleton.mp hp with rfl
    exact PySem.W.codeHd_of_K KX hk
  · rcases List.mem_singleton.mp hp with rfl
    exact hH (c, Pt) (List.mem_cons_self ..)
  · rcases List.mem_singleton.mp hp with rfl
    rfl
end K70
open PySem PySem.W PyProof.Rows
set_option maxHeartbeats 0 in
theorem PySem.Challenge.cw_rungonce_k70_whole_tours_with_paths_holds : PySem.Challenge.rw_rungonce_k70_whole_tours_with_paths.Holds := by
  w_on; o_law; k_head; (case hw => w_witness2)
  k_fill
  refine LamX.walk_ofTs (l := PySem.Challenge.rw_rungonce_k70_whole_tours_with_paths) (n := 63) (k := 12) (x := "_law_script") (CX := fun w => L2.CX PySem.Challenge.rw_rungonce_k70_whole_tours_with_paths.prog w) rfl (by decide) rfl ⟨rfl, by decide, by decide⟩ (fun w h Y => PySem.W.km_in_of Y) ?F (fun w H s e s' z => Sd.no_cx H s e s' z)
  case F =>
    intro w mg fa h Y KX G hmg
    have hT := PySem.W.km_tabs_of Y
    refine' K70.law_at KX G hmg ?hE (hT _ (List.mem_cons_self ..)) ?a ?l ?c ?k ?t ?z
    (case a => k_is); (case l => k_is); (case c => k_is); (case k => kernel_rfl); (case t => kernel_rfl); (case z => decide)
    case hE =>
      constructor
      · refine' Sd.funAt_of KX G ?a ?l ?c ?k (fun _ _ _ _ _ _ us hl => match us, hl with | [_], _ => rfl); (case a => k_is); (case l => k_is); (case c => k_is); (case k => k_is)
      · refine' Sd.funAt_of KX G ?a ?l ?c ?k (fun _ _ _ _ _ _ us hl => match us, hl with | [_, _], _ => rfl); (case a => k_is); (case l => k_is); (case c => k_is); (case k => k_is)
      · refine' Sd.funAt_of KX G ?a ?l ?c ?k (fun _ _ _ _ _ _ us hl => match us, hl with | [_, _], _ => rfl); (case a => k_is); (case l => k_is); (case c => k_is); (case k => k_is)
      · refine' Sd.funAt_of KX G ?a ?l ?c ?k (fun _ _ _ _ _ _ us hl => match us, hl with | [_], _ => rfl); (case a => k_is); (case l => k_is); (case c => k_is); (case k => k_is)
      · refine' Sd.funAt_of KX G ?a ?l ?c ?k (fun _ _ _ _ _ _ us hl => match us, hl with | [_], _ => rfl); (case a => k_is); (case l => k_is); (case c => k_is); (case k => k_is)
      · refine' Sd.funAt_of KX G ?a ?l ?c ?k (fun _ _ _ _ _ _ us hl => match us, hl with | [_, _], _ => rfl); (case a => k_is); (case l => k_is); (case c => k_is); (case k => k_is)
      · refine' Sd.funAt_of KX G ?a ?l ?c ?k (fun _ _ _ _ _ _ us hl => match us, hl with | [_, _], _ => rfl); (case a => k_is); (case l => k_is); (case c => k_is); (case k => k_is)
      · refine' Sd.funAt_of KX G ?a ?l ?c ?k (fun _ _ _ _ _ _ us hl => match us, hl with | [_, _], _ => rfl); (case a => k_is); (case l => k_is); (case c => k_is); (case k => k_is)
      · refine' Sd.funAt_of KX G ?a ?l ?c ?k (fun _ _ _ _ _ _ us hl => match us, hl with | [_, _], _ => rfl); (case a => k_is); (case l => k_is); (case c => k_is); (case k => k_is)
      · refine' Sd.funAt_of KX G ?a ?l ?c ?k (fun _ _ _ _ _ _ us hl => match us, hl with | [_, _], _ => rfl); (case a => k_is); (case l => k_is); (case c => k_is); (case k => k_is)
      · refine' Sd.funAt_of KX G ?a ?l ?c ?k (fun _ _ _ _ _ _ us hl => match us, hl with | [_, _], _ => rfl); (case a => k_is); (case l => k_is); (case c => k_is); (case k => k_is)
      · refine' Sd.funAt_of KX G ?a ?l ?c ?k (fun _ _ _ _ _ _ us hl => match us, hl with | [_, _], _ => rfl); (case a => k_is); (case l => k_is); (case c => k_is); (case k => k_is)
      · refine' Sd.funAt_of KX G ?a ?l ?c ?k (fun _ _ _ _ _ _ us hl => match us, hl with | [_, _], _ => rfl); (case a => k_is); (case l => k_is); (case c => k_is); (case k => k_is)
      · refine' Sd.funAt_of KX G ?a ?l ?c ?k (fun _ _ _ _ _ _ us hl => match us, hl with | [_, _, _, _], _ => rfl); (case a => k_is); (case l => k_is); (case c => k_is); (case k => k_is)
      · refine' Sd.funAt_of KX G ?a ?l ?c ?k (fun _ _ _ _ _ _ us hl => match us, hl with | [_, _], _ => rfl); (case a => k_is); (case l => k_is); (case c => k_is); (case k => k_is)
      · refine' Sd.funAt_of KX G ?a ?l ?c ?k (fun _ _ _ _ _ _ us hl => match us, hl with | [_, _, _], _ => rfl); (case a => k_is); (case l => k_is); (case c => k_is); (case k => k_is)
      · refine' Sd.funAt_of KX G ?a ?l ?c ?k (fun _ _ _ _ _ _ us hl => match us, hl with | [_, _], _ => rfl); (case a => k_is); (case l => k_is); (case c => k_is); (case k => k_is)
      · refine' Sd.funAt_of KX G ?a ?l ?c ?k (fun _ _ _ _ _ _ us hl => match us, hl with | [_], _ => rfl); (case a => k_is); (case l => k_is); (case c => k_is); (case k => k_is)
      · refine' Sd.funAt_of KX G ?a ?l ?c ?k (fun _ _ _ _ _ _ us hl => match us, hl with | [_, _], _ => rfl); (case a => k_is); (case l => k_is); (case c => k_is); (case k => k_is)
      · refine' Sd.funAt_of KX G ?a ?l ?c ?k (fun _ _ _ _ _ _ us hl => match us, hl with | [_], _ => rfl); (case a => k_is); (case l => k_is); (case c => k_is); (case k => k_is)
      · refine' Sd.funAt_of KX G ?a ?l ?c ?k (fun _ _ _ _ _ _ us hl => match us, hl with | [_], _ => rfl); (case a => k_is); (case l => k_is); (case c => k_is); (case k => k_is)
      · refine' Sd.funAt_of KX G ?a ?l ?c ?k (fun _ _ _ _ _ _ us hl => match us, hl with | [_], _ => rfl); (case a => k_is); (case l => k_is); (case c => k_is); (case k => k_is)
      · refine' Sd.funAt_of KX G ?a ?l ?c ?k (fun _ _ _ _ _ _ us hl => match us, hl with | [_], _ => rfl); (case a => k_is); (case l => k_is); (case c => k_is); (case k => k_is)
      · refine' Sd.funAt_of KX G ?a ?l ?c ?k (fun _ _ _ _ _ _ us hl => match us, hl with | [_, _], _ => rfl); (case a => k_is); (case l => k_is); (case c => k_is); (case k => k_is)
      · refine' Sd.funAt_of KX G ?a ?l ?c ?k (fun _ _ _ _ _ _ us hl => match us, hl with | [_], _ => rfl); (case a => k_is); (case l => k_is); (case c => k_is); (case k => k_is)
      · refine' Sd.funAt_of KX G ?a ?l ?c ?k (fun _ _ _ _ _ _ us hl => match us, hl with | [_, _], _ => rfl); (case a => k_is); (case l => k_is); (case c => k_is); (case k => k_is)
      · refine' Sd.funAt_of KX G ?a ?l ?c ?k (fun _ _ _ _ _ _ us hl => match us, hl with | [_, _], _ => rfl); (case a => k_is); (case l => k_is); (case c => k_is); (case k => k_is)
      · refine' Sd.funAt_of KX G ?a ?l ?c ?k (fun _ _ _ _ _ _ us hl => match us, hl with | [_, _], _ => rfl); (case a => k_is); (case l => k_is); (case c => k_is); (case k => k_is)
      · refine' Sd.funAt_of KX G ?a ?l ?c ?k (fun _ _ _ _ _ _ us hl => match us, hl with | [_, _], _ => rfl); (case a => k_is); (case l => k_is); (case c => k_is); (case k => k_is)
      · refine' Sd.funAt_of KX G ?a ?l ?c ?k (fun _ _ _ _ _ _ us hl => match us, hl with | [_, _], _ => rfl); (case a => k_is); (case l => k_is); (case c => k_is); (case k => k_is)
      · refine' Sd.funAt_of KX G ?a ?l ?c ?k (fun _ _ _ _ _ _ us hl => match us, hl with | [_], _ => rfl); (case a => k_is); (case l => k_is); (case c => k_is); (case k => k_is)
      · refine' Sd.funAt_of KX G ?a ?l ?c ?k (fun _ _ _ _ _ _ us hl => match us, hl with | [_], _ => rfl); (case a => k_is); (case l => k_is); (case c => k_is); (case k => k_is)
      · refine' Sd.funAt_of KX G ?a ?l ?c ?k (fun _ _ _ _ _ _ us hl => match us, hl with | [_, _], _ => rfl); (case a => k_is); (case l => k_is); (case c => k_is); (case k => k_is)
      · refine' Sd.funAt_of KX G ?a ?l ?c ?k (fun _ _ _ _ _ _ us hl => match us, hl with | [_, _, _], _ => rfl); (case a => k_is); (case l => k_is); (case c => k_is); (case k => k_is)
      · refine' Sd.funAt_of KX G ?a ?l ?c ?k (fun _ _ _ _ _ _ us hl => match us, hl with | [_], _ => rfl); (case a => k_is); (case l => k_is); (case c => k_is); (case k => k_is)
      · refine' Sd.funAt_of KX G ?a ?l ?c ?k (fun _ _ _ _ _ _ us hl => match us, hl with | [_, _], _ => rfl); (case a => k_is); (case l => k_is); (case c => k_is); (case k => k_is)
      · refine' Sd.funAt_of KX G ?a ?l ?c ?k (fun _ _ _ _ _ _ us hl => match us, hl with | [_], _ => rfl); (case a => k_is); (case l => k_is); (case c => k_is); (case k => k_is)
      · refine' Sd.funAt_of KX G ?a ?l ?c ?k (fun _ _ _ _ _ _ us hl => match us, hl with | [_], _ => rfl); (case a => k_is); (case l => k_is); (case c => k_is); (case k => k_is)
      · refine' Sd.funAt_of KX G ?a ?l ?c ?k (fun _ _ _ _ _ _ us hl => match us, hl with | [_], _ => rfl); (case a => k_is); (case l => k_is); (case c => k_is); (case k => k_is)
      · refine' Sd.funAt_of KX G ?a ?l ?c ?k (fun _ _ _ _ _ _ us hl => match us, hl with | [_, _], _ => rfl); (case a => k_is); (case l => k_is); (case c => k_is); (case k => k_is)
      · refine' Sd.funAt_of KX G ?a ?l ?c ?k (fun _ _ _ _ _ _ us hl => match us, hl with | [_], _ => rfl); (case a => k_is); (case l => k_is); (case c => k_is); (case k => k_is)
      · refine' Sd.funAt_of KX G ?a ?l ?c ?k (fun _ _ _ _ _ _ us hl => match us, hl with | [_], _ => rfl); (case a => k_is); (case l => k_is); (case c => k_is); (case k => k_is)
      · refine' Sd.funAt_of KX G ?a ?l ?c ?k (fun _ _ _ _ _ _ us hl => match us, hl with | [_], _ => rfl); (case a => k_is); (case l => k_is); (case c => k_is); (case k => k_is)
      · refine' Sd.funAt_of KX G ?a ?l ?c ?k (fun _ _ _ _ _ _ us hl => match us, hl with | [_], _ => rfl); (case a => k_is); (case l => k_is); (case c => k_is); (case k => k_is)
      · refine' Sd.funAt_of KX G ?a ?l ?c ?k (fun _ _ _ _ _ _ us hl => match us, hl with | [_], _ => rfl); (case a => k_is); (case l => k_is); (case c => k_is); (case k => k_is)
      · refine' PySem.W.mg_none_of KX G ?a; (case a => k_is)
      · refine' PySem.W.mg_none_of KX G ?a; (case a => k_is)
      · refine' PySem.W.mg_none_of KX G ?a; (case a => k_is)
      · refine' PySem.W.mg_none_of KX G ?a; (case a => k_is)
      · refine' PySem.W.mg_none_of KX G ?a; (case a => k_is)
      · refine' PySem.W.mg_none_of KX G ?a; (case a => k_is)
      · refine' PySem.W.mg_none_of KX G ?a; (case a => k_is)
      · refine' PySem.W.mg_none_of KX G ?a; (case a => k_is)
      · refine' PySem.W.mg_none_of KX G ?a; (case a => k_is)
      · refine' PySem.W.mg_none_of KX G ?a; (case a => k_is)
      · refine' PySem.W.mg_none_of KX G ?a; (case a => k_is)
      · refine' PySem.W.mg_none_of KX G ?a; (case a => k_is)
      · refine' Sd.excOk_of KX G ?a ?e ?k ?s ?t; (case a => k_is); (case e => kernel_rfl); (case k => k_is); (case s => k_is); (case t => k_is)
      · refine' Sd.excOk_of KX G ?a ?e ?k ?s ?t; (case a => k_is); (case e => kernel_rfl); (case k => k_is); (case s => k_is); (case t => k_is)
      · refine' Sd.known_of KX G ?a; (case a => k_is)
      · refine' Sd.kit_at KX G ?a ?b ?e; (case a => k_is); (case b => k_is); (case e => kernel_rfl)
      · refine' Sd.kit_at KX G ?a ?b ?e; (case a => k_is); (case b => k_is); (case e => kernel_rfl)
      · refine' Sd.kit_at KX G ?a ?b ?e; (case a => k_is); (case b => k_is); (case e => kernel_rfl)
      · refine' Sd.excc_at KX G ?a ?b ?f1 ?f2 ?f3 ?f4 ?f5 ?f6 ?f7 ?f8 ?e; (case a => k_is); (case b => k_is); (case f1 => k_is); (case f2 => k_is); (case f3 => k_is); (case f4 => k_is); (case f5 => k_is); (case f6 => k_is); (case f7 => k_is); (case f8 => k_is); (case e => kernel_rfl)
      · refine' Sd.excc_at KX G ?a ?b ?f1 ?f2 ?f3 ?f4 ?f5 ?f6 ?f7 ?f8 ?e; (case a => k_is); (case b => k_is); (case f1 => k_is); (case f2 => k_is); (case f3 => k_is); (case f4 => k_is); (case f5 => k_is); (case f6 => k_is); (case f7 => k_is); (case f8 => k_is); (case e => kernel_rfl)
      · refine' Sd.global_of KX G ?a ?r; (case a => k_is); (case r => exact ⟨_, rfl⟩)
      · refine' Sd.global_of KX G ?a ?r; (case a => k_is); (case r => exact ⟨_, rfl⟩)
      · refine' Sd.global_of KX G ?a ?r; (case a => k_is); (case r => exact ⟨_, rfl⟩)
