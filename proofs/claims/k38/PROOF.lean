import PyProof.Rows.All
import Wide.All
import OpenK.AllK
import Wide.FinOn
import HandS.ForMost
import HandS.ForExc
import HandS.IsInst
import HandS.Zip
import HandS.Gcd
import HandS.Wide
import KE.SortData
import HandS.ExcIs
import HandS.Lambda
import HandS.EndTab
import HandS.Flt
import HandS.ExcField
import HandS.ExcInit
import KE.KExcIs
import HandS.TupAny
import HandS.TupLe
import HandS.Iter
import HandS.Deep
import HandS.OwnEq
import HandS.SlotsOwn
import KE.DataFind
import PySem.Challenge.RW_twotides_k38_whole_known_books
set_option Elab.async false
set_option linter.all false
set_option maxRecDepth 100000
set_option maxHeartbeats 4000000
namespace L3
open PySem PySem.Spec PyProof.Rows L2

/-! ## data -/
inductive D where
  | non | bl (b : Bool) | int (i : Int) | str (x : Str) | tup (ds : List D) | lst (ds : List D) | fl (ds : List D) | ty (n : String) | oth (t : Value) | ins (C : Addr) (fs : List (Str × D)) | adr (q : Addr)

mutual
inductive Rep (K : PySem.W.Frag) (F : Hp) : V → D → Prop
  | non : Rep K F .non .non
  | bl (b : Bool) : Rep K F (.bl b) (.bl b)
  | int (i : Int) : Rep K F (.int i) (.int i)
  | str (x : Str) : Rep K F (.str x) (.str x)
  | tup {a : Addr} {xs : List V} {ds : List D} : SqT K F a xs → Reps K F xs ds → Rep K F (.ref a) (.tup ds)
  | lst {a : Addr} {xs : List V} {ds : List D} : F a = some (.lst xs) → Reps K F xs ds → Rep K F (.ref a) (.lst ds)
  | fl {a : Addr} {xs : List V} {ds : List D} : SqL K F a xs → Reps K F xs ds → Rep K F (.ref a) (.fl ds)
  | ty (n : String) : Rep K F (.ty n) (.ty n)
  | oth {a : Addr} {t : Value} : TyX K F (.ref a) t → Rep K F (.ref a) (.oth t)
  | ins {a C dx : Addr} {fs : List (Str × V)} {ds : List (Str × D)} : F a = some (.ins C dx fs) → FRep K F fs ds → Rep K F (.ref a) (.ins C ds)
  | adr (q : Addr) : Rep K F (.ref q) (.adr q)
inductive Reps (K : PySem.W.Frag) (F : Hp) : List V → List D → Prop
  | nil : Reps K F [] []
  | cons {v : V} {vs : List V} {d : D} {ds : List D} : Rep K F v d → Reps K F vs ds → Reps K F (v :: vs) (d :: ds)
inductive FRep (K : PySem.W.Frag) (F : Hp) : List (Str × V) → List (Str × D) → Prop
  | nil : FRep K F [] []
  | cons {f : Str} {v : V} {d : D} {vs : List (Str × V)} {ds : List (Str × D)} : Rep K F v d → FRep K F vs ds → FRep K F ((f, v) :: vs) ((f, d) :: ds)
end

theorem SqT_mono {K : PySem.W.Frag} {F F' : Hp} {a : Addr} {xs : List V} (s : Same F F') (h : SqT K F a xs) : SqT K F' a xs := by
  rcases h with (h | ⟨o, h⟩) | h
  · exact .inl (.inl (s _ _ h))
  · exact .inl (.inr ⟨o, s _ _ h⟩)
  · exact .inr h
theorem TyX_mono {K : PySem.W.Frag} {F F' : Hp} {v : V} {t : Value} (s : Same F F') (h : TyX K F v t) : TyX K F' v t := by
  cases h with
  | base h =>
    refine .base ?_
    cases h with
    | non => exact .non
    | bl x => exact .bl x
    | int x => exact .int x
    | str x => exact .str x
    | flt x => exact .flt x
    | lst e => exact .lst (s _ _ e)
    | frz e => exact .frz (s _ _ e)
    | tup e => exact .tup (s _ _ e)
    | dK e => exact .dK (s _ _ e)
    | dT e => exact .dT (s _ _ e)
    | ins e cl ha hn ht hm => exact .ins (s _ _ e) cl ha hn ht hm
  | byt b => exact .byt b
  | set e => exact .set (s _ _ e)
  | kList e c => exact .kList e c
  | kTuple e c => exact .kTuple e c
  | kDict e c => exact .kDict e c
  | fTuple e => exact .fTuple (s _ _ e)
  | fDict e => exact .fDict (s _ _ e)
mutual
theorem Rep.mono {K : PySem.W.Frag} {F F' : Hp} (s : Same F F') : ∀ {v : V} {d : D}, Rep K F v d → Rep K F' v d
  | _, _, .non => .non
  | _, _, .bl b => .bl b
  | _, _, .int i => .int i
  | _, _, .str x => .str x
  | _, _, .tup h r => .tup (SqT_mono s h) (Reps.mono s r)
  | _, _, .lst h r => .lst (s _ _ h) (Reps.mono s r)
  | _, _, .fl h r => .fl (s.seq h) (Reps.mono s r)
  | _, _, .ty n => .ty n
  | _, _, .oth h => .oth (TyX_mono s h)
  | _, _, .ins h r => .ins (s _ _ h) (FRep.mono s r)
  | _, _, .adr q => .adr q
theorem Reps.mono {K : PySem.W.Frag} {F F' : Hp} (s : Same F F') : ∀ {vs : List V} {ds : List D}, Reps K F vs ds → Reps K F' vs ds
  | _, _, .nil => .nil
  | _, _, .cons h r => .cons (Rep.mono s h) (Reps.mono s r)
theorem FRep.mono {K : PySem.W.Frag} {F F' : Hp} (s : Same F F') : ∀ {vs : List (Str × V)} {ds : List (Str × D)}, FRep K F vs ds → FRep K F' vs ds
  | _, _, .nil => .nil
  | _, _, .cons h r => .cons (Rep.mono s h) (FRep.mono s r)
end
theorem Reps.length {K : PySem.W.Frag} {F : Hp} : ∀ {vs : List V} {ds : List D}, Reps K F vs ds → vs.length = ds.length
  | _, _, .nil => rfl
  | _, _, .cons _ r => by rw [List.length_cons, List.length_cons, Reps.length r]
theorem Reps.get {K : PySem.W.Frag} {F : Hp} : ∀ {vs : List V} {ds : List D} {i : Nat} {v : V}, Reps K F vs ds → vs[i]? = some v → ∃ d, ds[i]? = some d ∧ Rep K F v d
  | _, _, _, _, .nil, e => by simp at e
  | _, _, 0, _, .cons r _, e => by simp at e; subst e; exact ⟨_, rfl, r⟩
  | _, _, i + 1, x, .cons _ t, e => by
    obtain ⟨u, h1, h2⟩ := Reps.get (i := i) (v := x) t (by simpa using e)
    exact ⟨u, by simpa using h1, h2⟩
theorem Reps.getD {K : PySem.W.Frag} {F : Hp} : ∀ {vs : List V} {ds : List D} {i : Nat} {d : D}, Reps K F vs ds → ds[i]? = some d → ∃ v, vs[i]? = some v ∧ Rep K F v d
  | _, _, _, _, .nil, e => by simp at e
  | _, _, 0, _, .cons r _, e => by simp at e; subst e; exact ⟨_, rfl, r⟩
  | _, _, i + 1, x, .cons _ t, e => by
    obtain ⟨u, h1, h2⟩ := Reps.getD (i := i) (d := x) t (by simpa using e)
    exact ⟨u, by simpa using h1, h2⟩
theorem Reps.append {K : PySem.W.Frag} {F : Hp} : ∀ {vs ws : List V} {ds es : List D}, Reps K F vs ds → Reps K F ws es → Reps K F (vs ++ ws) (ds ++ es)
  | _, _, _, _, .nil, r => r
  | _, _, _, _, .cons h t, r => .cons h (Reps.append t r)
theorem Reps.take {K : PySem.W.Frag} {F : Hp} : ∀ {vs : List V} {ds : List D} (n : Nat), Reps K F vs ds → Reps K F (vs.take n) (ds.take n)
  | _, _, 0, _ => .nil
  | _, _, _ + 1, .nil => .nil
  | _, _, n + 1, .cons h t => .cons h (Reps.take n t)
theorem Reps.drop {K : PySem.W.Frag} {F : Hp} : ∀ {vs : List V} {ds : List D} (n : Nat), Reps K F vs ds → Reps K F (vs.drop n) (ds.drop n)
  | _, _, 0, r => r
  | _, _, _ + 1, .nil => .nil
  | _, _, n + 1, .cons h t => Reps.drop n t
theorem Reps.set {K : PySem.W.Frag} {F : Hp} {v : V} {d : D} (h : Rep K F v d) : ∀ {vs : List V} {ds : List D} (n : Nat), Reps K F vs ds → Reps K F (vs.set n v) (ds.set n d)
  | _, _, _, .nil => .nil
  | _, _, 0, .cons _ t => .cons h t
  | _, _, n + 1, .cons g t => .cons g (Reps.set h n t)
theorem Reps.ints {K : PySem.W.Frag} {F : Hp} : ∀ {ns : List Int}, Reps K F (ns.map V.int) (ns.map D.int)
  | [] => .nil
  | n :: ns => .cons (.int n) (Reps.ints (ns := ns))
theorem Reps.bls {K : PySem.W.Frag} {F : Hp} : ∀ {bs : List Bool} {vs : List V}, Reps K F vs (bs.map D.bl) → vs = bs.map V.bl
  | [], _, .nil => rfl
  | b :: bs, _, .cons h t => by
    cases h
    show _ :: _ = _ :: _
    rw [Reps.bls t]
theorem Reps.intsV {K : PySem.W.Frag} {F : Hp} : ∀ {ns : List Int} {vs : List V}, Reps K F vs (ns.map D.int) → vs = ns.map V.int
  | [], _, .nil => rfl
  | n :: ns, _, .cons h t => by
    cases h
    show _ :: _ = _ :: _
    rw [Reps.intsV t]

/-- the type of a thing -/
def tyD : D → Value
  | .non => .type "NoneType" | .bl _ => .type "bool" | .int _ => .type "int" | .str _ => .type "str" | .tup _ => .type "tuple" | .lst _ => .type "list" | .fl _ => .type "list" | .ty _ => .type "type" | .oth t => t | .ins C _ => .ref C | .adr _ => .type "list"
def noTy : D → Prop | .ty _ => False | .ins _ _ => False | .adr _ => False | _ => True
theorem Rep.tyX {K : PySem.W.Frag} {F : Hp} {v : V} {d : D} (h : Rep K F v d) (n : noTy d) : TyX K F v (tyD d) := by
  cases h with
  | non => exact .base .non
  | bl b => exact .base (.bl b)
  | int i => exact .base (.int i)
  | str x => exact .base (.str x)
  | tup h _ =>
    rcases h with (h | ⟨o, h⟩) | ⟨o, its, n, h, c, _⟩
    · exact .base (.tup h)
    · exact .fTuple h
    · exact .kTuple h c
  | lst h _ => exact .base (.lst h)
  | fl h _ =>
    rcases h with (h | ⟨o, h⟩) | ⟨o, its, n, h, c, _⟩
    · exact .base (.lst h)
    · exact .base (.frz h)
    · exact .kList h c
  | ty n => exact n.elim
  | oth h => exact h
  | ins _ _ => exact n.elim
  | adr _ => exact n.elim

/-! ## the state -/
inductive Cont where
  | lst (ds : List D) | obj (C dx : Addr) (fs : List (Str × D)) | pool (a b : Int) (q : Addr) (ns : List Int)
inductive Cell where
  | any | dat (d : D) | own (p : Addr) (c : Cont)
/-- no table of code objects -/
def NT (o : HO) : Prop := ∀ ps, o ≠ .tbl ps
theorem nt_lst {xs : List V} : NT (.lst xs) := fun ps z => by cases z
theorem nt_xd {xs : List (Str × V)} : NT (.xd xs) := fun ps z => by cases z
theorem nt_ins {C dx : Addr} {fs : List (Str × V)} : NT (.ins C dx fs) := fun ps z => by cases z
inductive CRep (K : PySem.W.Frag) (F : Hp) : HO → Cont → Prop
  | lst {vs : List V} {ds : List D} : Reps K F vs ds → CRep K F (.lst vs) (.lst ds)
  | obj {C dx : Addr} {vs : List (Str × V)} {ds : List (Str × D)} : FRep K F vs ds → CRep K F (.ins C dx vs) (.obj C dx ds)
  | pool {a b : Int} {q : Addr} {ns : List Int} : CRep K F (.lst [.int a, .int b, .ref q]) (.pool a b q ns)
theorem CRep.mono {K : PySem.W.Frag} {F F' : Hp} {o : HO} {c : Cont} (s : Same F F') (h : CRep K F o c) : CRep K F' o c := by
  cases h with
  | lst r => exact .lst (r.mono s)
  | obj r => exact .obj (r.mono s)
  | pool => exact .pool
theorem CRep.nt {K : PySem.W.Frag} {F : Hp} {o : HO} {c : Cont} (h : CRep K F o c) : NT o := by
  cases h with
  | lst r => exact nt_lst
  | obj r => exact nt_ins
  | pool => exact nt_lst
/-- what else belongs to an own thing -/
def Foot : Cont → Addr → Prop
  | .pool _ _ q _, a => a = q
  | _, _ => False
/-- the addresses that a cell has for its own -/
def Has : Cell → Addr → Prop
  | .own p k, a => a = p ∨ Foot k a
  | _, _ => False
def SubOk (F H : Hp) (p : Addr) : Cont → Prop
  | .pool _ _ q ns => q ≠ p ∧ F q = none ∧ H q = some (.lst (ns.map V.int))
  | _ => True
def Flat : Cont → Prop
  | .pool _ _ _ _ => False
  | _ => True
theorem Flat.no {k : Cont} (f : Flat k) {a : Addr} : ¬ Foot k a := by
  cases k with
  | lst ds => exact id
  | obj C dx fs => exact id
  | pool a b q ns => exact f.elim
theorem Flat.sub {k : Cont} (f : Flat k) {F H : Hp} {p : Addr} : SubOk F H p k := by
  cases k with
  | lst ds => exact trivial
  | obj C dx fs => exact trivial
  | pool a b q ns => exact f.elim
def CellOk (K : PySem.W.Frag) (F H : Hp) : Cell → Prop
  | .own p k => F p = none ∧ ∃ vs, H p = some vs ∧ CRep K F vs k ∧ SubOk F H p k
  | _ => True
theorem CellOk.has {K : PySem.W.Frag} {F H : Hp} {c : Cell} {a : Addr} (h : CellOk K F H c) (f : Has c a) : F a = none ∧ ∃ u, H a = some u ∧ NT u := by
  cases c with
  | any => exact f.elim
  | dat d => exact f.elim
  | own p k =>
    obtain ⟨h1, vs, h2, h3, h4⟩ := h
    rcases f with rfl | f
    · exact ⟨h1, vs, h2, h3.nt⟩
    · cases k with
      | lst ds => exact f.elim
      | obj C dx fs => exact f.elim
      | pool x y q ns =>
        have f : a = q := f
        subst f
        exact ⟨h4.2.1, _, h4.2.2, nt_lst⟩
theorem CellOk.move {K : PySem.W.Frag} {F H F' H' : Hp} {c : Cell} (h : CellOk K F H c) (s : Same F F') (m : ∀ a, Has c a → F' a = none ∧ ∀ u, H a = some u → NT u → H' a = some u) : CellOk K F' H' c := by
  cases c with
  | any => exact trivial
  | dat d => exact trivial
  | own p k =>
    obtain ⟨h1, vs, h2, h3, h4⟩ := h
    refine ⟨(m p (.inl rfl)).1, vs, (m p (.inl rfl)).2 _ h2 h3.nt, h3.mono s, ?_⟩
    cases k with
    | lst ds => exact trivial
    | obj C dx fs => exact trivial
    | pool x y q ns => exact ⟨h4.1, (m q (.inr rfl)).1, (m q (.inr rfl)).2 _ h4.2.2 nt_lst⟩
theorem CellOk.flat {K : PySem.W.Frag} {F H : Hp} {p : Addr} {k : Cont} {vs : HO} (fl : Flat k) (h1 : F p = none) (h2 : H p = some vs) (h3 : CRep K F vs k) : CellOk K F H (.own p k) := ⟨h1, vs, h2, h3, fl.sub⟩

/-- a mutable list that is the frame's own -/
def OwnOk (K : PySem.W.Frag) (F H : Hp) (τ : List Cell) : Prop := ∀ (i : Nat) (c : Cell), τ[i]? = some c → CellOk K F H c
def InjOk (τ : List Cell) : Prop := ∀ (i j : Nat) (c d : Cell) (a : Addr), τ[i]? = some c → τ[j]? = some d → Has c a → Has d a → i = j
def SlotOk (K : PySem.W.Frag) (F : Hp) (s : Option V) : Cell → Prop
  | .any => True
  | .dat d => ∃ v, s = some v ∧ Rep K F v d
  | .own p _ => s = some (.ref p)
/-- the tables of code objects that are in use -/
class TabT where
  T : List (Addr × Str)
variable [TB : TabT]
theorem tabs_upd {T : List (Addr × Str)} {H : Hp} {p : Addr} {o : HO} (h : ∀ u, H p = some u → (∀ ps, u ≠ .tbl ps) ∧ ∀ c q, u ≠ LamX.CodeO c q) (t : LamX.Tabs T H) : LamX.Tabs T (upd H p o) := by
  intro x hx
  obtain ⟨ps, h1, h2, h3⟩ := t x hx
  refine ⟨ps, ?_, h2, fun pos cv e => ?_⟩
  · rw [upd_ne (fun z => by rw [z] at h1; exact (h _ h1).1 ps rfl)]
    exact h1
  · obtain ⟨c, e1, e2⟩ := h3 pos cv e
    refine ⟨c, e1, ?_⟩
    rw [upd_ne (fun z => by rw [z] at e2; exact (h _ e2).2 _ _ rfl)]
    exact e2
theorem tabs_new {T : List (Addr × Str)} {H : Hp} {p : Addr} {o : HO} (h : H p = none) (t : LamX.Tabs T H) : LamX.Tabs T (upd H p o) := tabs_upd (fun u e => by rw [h] at e; cases e) t
theorem tabs_crep {T : List (Addr × Str)} {K : PySem.W.Frag} {F H : Hp} {p : Addr} {o u : HO} {c : Cont} (h : H p = some u) (r : CRep K F u c) (t : LamX.Tabs T H) : LamX.Tabs T (upd H p o) :=
  tabs_upd (fun v e => by
    rw [h] at e
    cases e
    refine ⟨r.nt, fun c q z => ?_⟩
    unfold LamX.CodeO at z
    cases r <;> cases z) t
theorem tabs_lst {T : List (Addr × Str)} {H : Hp} {p : Addr} {o : HO} {xs : List V} (h : H p = some (.lst xs)) : LamX.Tabs T H → LamX.Tabs T (upd H p o) :=
  tabs_upd fun v e => by
    rw [h] at e
    cases e
    exact ⟨fun ps z => (by cases z), fun c q z => (by unfold LamX.CodeO at z; cases z)⟩
theorem tabs_dK {T : List (Addr × Str)} {H : Hp} {p : Addr} {o : HO} {xs : List (Key × V)} (h : H p = some (.dK xs)) : LamX.Tabs T H → LamX.Tabs T (upd H p o) :=
  tabs_upd fun v e => by
    rw [h] at e
    cases e
    exact ⟨fun ps z => (by cases z), fun c q z => (by unfold LamX.CodeO at z; cases z)⟩
/-- the tables stand, and no data is one -/
def Good (F H : Hp) : Prop := LamX.Tabs TB.T H ∧ ∀ a o, F a = some o → NT o
theorem nt_upd {F : Hp} {p : Addr} {o : HO} (nt : NT o) (h : ∀ a u, F a = some u → NT u) : ∀ a u, upd F p o a = some u → NT u := fun a u e => by
  by_cases q : a = p
  · subst q; rw [upd_same] at e; cases e; exact nt
  · rw [upd_ne q] at e; exact h a u e
structure SOk (K : PySem.W.Frag) (F H : Hp) (σ : L2.St) (τ : List Cell) : Prop where
  tabs : Good F H
  sub : Same F H
  len : σ.length = τ.length
  slot : ∀ (i : Nat) (s : Option V) (c : Cell), σ[i]? = some s → τ[i]? = some c → SlotOk K F s c
  own : OwnOk K F H τ
  inj : InjOk τ
def IsOwn (τ : List Cell) (p : Addr) : Prop := ∃ (i : Nat) (c : Cell), τ[i]? = some c ∧ Has c p
theorem isOwn_at {τ : List Cell} {i : Nat} {p : Addr} {k : Cont} (h : τ[i]? = some (.own p k)) : IsOwn τ p := ⟨i, _, h, .inl rfl⟩
theorem OwnOk.has {K : PySem.W.Frag} {F H : Hp} {τ : List Cell} {a : Addr} (o : OwnOk K F H τ) (h : IsOwn τ a) : F a = none ∧ ∃ u, H a = some u ∧ NT u := by
  obtain ⟨i, c, e, f⟩ := h
  exact (o i c e).has f
theorem set_get {τ : List Cell} {i j : Nat} {c d : Cell} (h : (τ.set i c)[j]? = some d) : (j = i ∧ d = c ∧ i < τ.length) ∨ (j ≠ i ∧ τ[j]? = some d) := by
  by_cases e : i = j
  · subst e
    by_cases hl : i < τ.length
    · rw [List.getElem?_set_self hl] at h
      cases h
      exact .inl ⟨rfl, rfl, hl⟩
    · rw [List.getElem?_eq_none (by rw [List.length_set]; exact Nat.le_of_not_lt hl)] at h
      cases h
  · rw [List.getElem?_set_ne e] at h
    exact .inr ⟨fun z => e z.symm, h⟩
theorem isOwn_set {τ : List Cell} {i : Nat} {c : Cell} (hc : ∀ a, ¬ Has c a) {p : Addr} (h : IsOwn (τ.set i c) p) : IsOwn τ p := by
  obtain ⟨j, d, e, f⟩ := h
  rcases set_get e with ⟨_, rfl, _⟩ | ⟨_, e⟩
  · exact absurd f (hc p)
  · exact ⟨j, d, e, f⟩
theorem InjOk.set {τ : List Cell} {i : Nat} {c : Cell} (h : InjOk τ) (hc : ∀ a, Has c a → ∀ j d, j ≠ i → τ[j]? = some d → ¬ Has d a) : InjOk (τ.set i c) := by
  intro j k d e a h1 h2 f1 f2
  rcases set_get h1 with ⟨a1, e1, _⟩ | ⟨n1, g1⟩
  · rcases set_get h2 with ⟨b1, e2, _⟩ | ⟨n2, g2⟩
    · rw [a1, b1]
    · exact absurd f2 (hc a (e1 ▸ f1) k e n2 g2)
  · rcases set_get h2 with ⟨b1, e2, _⟩ | ⟨n2, g2⟩
    · exact absurd f1 (hc a (e2 ▸ f2) j d n1 g1)
    · exact h j k d e a g1 g2 f1 f2
/-- nothing is there, or a table -/
def Fr (H : Hp) (a : Addr) : Prop := ∀ o, H a = some o → ¬ NT o
theorem fr_none {H : Hp} {a : Addr} (h : H a = none) : Fr H a := fun o e => by rw [h] at e; cases e
theorem fr_ne {H : Hp} {a p : Addr} {o : HO} (e : H a = some o) (nt : NT o) (h : Fr H p) : a ≠ p := fun z => h o (by rw [← z]; exact e) nt
/-- from (F, H) to (F', H'), where what is own may change -/
structure Ext (τ : List Cell) (F H F' H' : Hp) : Prop where
  f : Same F F'
  new : ∀ a o, F' a = some o → F a = some o ∨ Fr H a ∨ IsOwn τ a
  keep : ∀ a o, H a = some o → ¬ IsOwn τ a → NT o → H' a = some o
  there : ∀ a, Fr H' a → Fr H a
  tabs : Good F H → Good F' H'
/-- what is own behind was own ahead, or is new -/
def Grow (τ : List Cell) (H : Hp) (τ' : List Cell) : Prop := ∀ p, IsOwn τ' p → IsOwn τ p ∨ Fr H p
theorem Ext.refl (τ : List Cell) (F H : Hp) : Ext τ F H F H := ⟨Same.refl F, fun _ _ h => .inl h, fun _ _ h _ _ => h, fun _ h => h, id⟩
theorem Grow.refl (τ : List Cell) (H : Hp) : Grow τ H τ := fun _ h => .inl h
theorem Ext.trans {τ τ1 : List Cell} {F H F1 H1 F2 H2 : Hp} (a : Ext τ F H F1 H1) (g : Grow τ H τ1) (b : Ext τ1 F1 H1 F2 H2) : Ext τ F H F2 H2 := by
  refine ⟨a.f.trans b.f, fun x o e => ?_, fun x o e n nt => ?_, fun x h => a.there x (b.there x h), fun t => b.tabs (a.tabs t)⟩
  · rcases b.new x o e with h | h | h
    · exact a.new x o h
    · exact .inr (.inl (a.there x h))
    · rcases g x h with h | h
      · exact .inr (.inr h)
      · exact .inr (.inl h)
  · refine b.keep x o (a.keep x o e n nt) (fun h => ?_) nt
    rcases g x h with h | h
    · exact n h
    · exact h o e nt
theorem Grow.trans {τ τ1 τ2 : List Cell} {F H F1 H1 : Hp} (a : Ext τ F H F1 H1) (g : Grow τ H τ1) (g' : Grow τ1 H1 τ2) : Grow τ H τ2 := fun p h => by
  rcases g' p h with h | h
  · exact g p h
  · exact .inr (a.there p h)
/-- a new frozen object -/
theorem Ext.laid {τ : List Cell} {F H : Hp} {p : Addr} {o : HO} (s : Same F H) (h : H p = none) (nt : NT o) : Ext τ F H (upd F p o) (upd H p o) := by
  refine ⟨fun a u e => ?_, fun a u e => ?_, fun a u e _ _ => ?_, fun a e => ?_, fun g => ⟨tabs_new h g.1, nt_upd nt g.2⟩⟩
  · rw [upd_ne (ne_of_none (s _ _ e) h)]; exact e
  · by_cases q : a = p
    · subst q; exact .inr (.inl (fr_none h))
    · rw [upd_ne q] at e; exact .inl e
  · rw [upd_ne (ne_of_none e h)]; exact e
  · by_cases q : a = p
    · subst q; exact fr_none h
    · exact fun o' e' => e o' (by rw [upd_ne q]; exact e')
/-- a new object that is not tracked as data -/
theorem Ext.laid0 {τ : List Cell} {F H : Hp} {p : Addr} {o : HO} (h : H p = none) : Ext τ F H F (upd H p o) := by
  refine ⟨Same.refl F, fun a u e => .inl e, fun a u e _ _ => ?_, fun a e => ?_, fun g => ⟨tabs_new h g.1, g.2⟩⟩
  · rw [upd_ne (ne_of_none e h)]; exact e
  · by_cases q : a = p
    · subst q; exact fr_none h
    · exact fun o' e' => e o' (by rw [upd_ne q]; exact e')
theorem SlotOk.mono {K : PySem.W.Frag} {F F' : Hp} (s : Same F F') {v : Option V} {c : Cell} (h : SlotOk K F v c) : SlotOk K F' v c := by
  cases c with
  | any => exact trivial
  | dat d => obtain ⟨x, e, r⟩ := h; exact ⟨x, e, r.mono s⟩
  | own p ds => exact h
/-- a step that changes nothing of what is own -/
theorem SOk.ext {K : PySem.W.Frag} {F H F' H' : Hp} {σ : L2.St} {τ : List Cell} (S : SOk K F H σ τ) (e : Ext [] F H F' H') (sub : Same F' H') : SOk K F' H' σ τ := by
  have no : ∀ a, ¬ IsOwn [] a := fun a ⟨i, c, h, _⟩ => by simp at h
  refine ⟨e.tabs S.tabs, sub, S.len, fun i s c h1 h2 => (S.slot i s c h1 h2).mono e.f, fun i c h => (S.own i c h).move e.f fun a f => ?_, S.inj⟩
  obtain ⟨h1, u, h2, h3⟩ := (S.own i c h).has f
  refine ⟨?_, fun o ho nt => e.keep a o ho (no a) nt⟩
  cases q : F' a with
  | none => rfl
  | some o =>
    rcases e.new a o q with z | z | z
    · rw [h1] at z; cases z
    · exact (z _ h2 h3).elim
    · exact absurd z (no a)
theorem Ext.wk {τ : List Cell} {F H F' H' : Hp} (e : Ext [] F H F' H') : Ext τ F H F' H' := by
  have no : ∀ a, ¬ IsOwn [] a := fun a ⟨i, c, h, _⟩ => by simp at h
  refine ⟨e.f, fun a o h => ?_, fun a o h _ nt => e.keep a o h (no a) nt, e.there, e.tabs⟩
  rcases e.new a o h with z | z | z
  · exact .inl z
  · exact .inr (.inl z)
  · exact absurd z (no a)

/-! ## judgements -/
structure Xn where
  cls : Addr
  fs : List (Str × D)
structure XRep (K : PySem.W.Frag) (F H : Hp) (cls : Value) (dx : Option Addr) (x : Xn) : Prop where
  c : cls = .ref x.cls
  f : (x.fs = [] ∧ dx = none) ∨ (x.fs ≠ [] ∧ ∃ a vs, dx = some a ∧ H a = some (.xd vs) ∧ FRep K F vs x.fs)

abbrev EW := List Cell → (D → List Cell → Prop) → (Xn → List Cell → Prop) → Prop
abbrev TW := List Cell → (Bool → List Cell → Prop) → (Xn → List Cell → Prop) → Prop
abbrev AW := List Cell → (List D → List Cell → Prop) → (Xn → List Cell → Prop) → Prop
structure EndsD where
  nx : List Cell → Prop
  rt : D → List Cell → Prop
  rf : Cont → List Cell → Prop := fun _ _ => False
  bk : List Cell → Prop := fun _ => False
  ct : List Cell → Prop := fun _ => False
  ex : Xn → List Cell → Prop := fun _ _ => False
abbrev SW := EndsD → List Cell → Prop

/-- where an expression has led -/
structure To (K : PySem.W.Frag) (F H : Hp) (σ : L2.St) (τ : List Cell) (F' H' : Hp) (τ' : List Cell) : Prop where
  ext : Ext τ F H F' H'
  grow : Grow τ H τ'
  ok : SOk K F' H' σ τ'
theorem To.refl {K : PySem.W.Frag} {F H : Hp} {σ : L2.St} {τ : List Cell} (S : SOk K F H σ τ) : To K F H σ τ F H τ := ⟨.refl _ _ _, .refl _ _, S⟩
theorem To.trans {K : PySem.W.Frag} {F H F1 H1 F2 H2 : Hp} {σ σ' : L2.St} {τ τ1 τ2 : List Cell} (a : To K F H σ τ F1 H1 τ1) (b : To K F1 H1 σ' τ1 F2 H2 τ2) : To K F H σ' τ F2 H2 τ2 :=
  ⟨a.ext.trans a.grow b.ext, .trans a.ext a.grow b.grow, b.ok⟩
theorem To.small {K : PySem.W.Frag} {F H F' H' : Hp} {σ : L2.St} {τ : List Cell} (S : SOk K F H σ τ) (e : Ext [] F H F' H') (sub : Same F' H') : To K F H σ τ F' H' τ := ⟨e.wk, .refl _ _, S.ext e sub⟩

def XTo (K : PySem.W.Frag) (W : WX) (F H : Hp) (σ : L2.St) (τ : List Cell) (e : Xn → List Cell → Prop) : Prop :=
  ∀ x cls dx τ' F' H', To K F H σ τ F' H' τ' → XRep K F' H' cls dx x → e x τ' → W cls dx σ H'
theorem XTo.of {K : PySem.W.Frag} {W : WX} {F H F1 H1 : Hp} {σ : L2.St} {τ τ1 : List Cell} {e : Xn → List Cell → Prop} (x : XTo K W F H σ τ e) (t : To K F H σ τ F1 H1 τ1) : XTo K W F1 H1 σ τ1 e :=
  fun y cls dx τ' F' H' u r q => x y cls dx τ' F' H' (t.trans u) r q
structure DE (K : PySem.W.Frag) (W : WX) (t : TE) (w : EW) : Prop where
  run : ∀ σ H τ F Q q e, SOk K F H σ τ → w τ q e → (∀ v d τ' F' H', To K F H σ τ F' H' τ' → Rep K F' v d → q d τ' → Q v H') → XTo K W F H σ τ e → t σ H Q
structure DT (K : PySem.W.Frag) (W : WX) (t : TT) (w : TW) : Prop where
  run : ∀ σ H τ F Q q e, SOk K F H σ τ → w τ q e → (∀ b τ' F' H', To K F H σ τ F' H' τ' → q b τ' → Q b H') → XTo K W F H σ τ e → t σ H Q
structure DA (K : PySem.W.Frag) (W : WX) (t : TA) (w : AW) : Prop where
  run : ∀ σ H τ F Q q e, SOk K F H σ τ → w τ q e → (∀ vs ds τ' F' H', To K F H σ τ F' H' τ' → Reps K F' vs ds → q ds τ' → Q vs H') → XTo K W F H σ τ e → t σ H Q

section
variable {K : PySem.W.Frag} {W : WX}

def wVar (i : Nat) : EW := fun τ q _ => ∃ d, τ[i]? = some (.dat d) ∧ q d τ
theorem de_var (i : Nat) : DE K W (tVar i) (wVar i) := by
  refine ⟨fun σ H τ F Q q e S ⟨d, h, hq⟩ k _ => ?_⟩
  have hi : i < σ.length := by rw [S.len]; exact (List.getElem?_eq_some_iff.mp h).1
  obtain ⟨v, e1, r⟩ := S.slot i σ[i] _ (List.getElem?_eq_getElem hi) h
  exact ⟨v, by rw [List.getElem?_eq_getElem hi, e1], k v d τ F H (.refl S) r hq⟩
def wC (d : D) : EW := fun τ q _ => q d τ
theorem de_c {v : V} {d : D} (h : ∀ F, Rep K F v d) : DE K W (tC v) (wC d) := ⟨fun σ H τ F Q q e S hq k _ => k v d τ F H (.refl S) (h F) hq⟩
theorem de_int {i : Int} : DE K W (tC (.int i)) (wC (.int i)) := de_c fun _ => .int i
theorem de_bl {i : Bool} : DE K W (tC (.bl i)) (wC (.bl i)) := de_c fun _ => .bl i
theorem de_non : DE K W (tC .non) (wC .non) := de_c fun _ => .non
theorem de_str {x : Str} : DE K W (tC (.str x)) (wC (.str x)) := de_c fun _ => .str x

/-- an operation that changes nothing that is there -/
def Op2 (K : PySem.W.Frag) (r : R2) (g : D → D → (D → Prop) → Prop) : Prop :=
  ∀ F H x y d1 d2 (q : D → Prop) Q, Same F H → Rep K F x d1 → Rep K F y d2 → g d1 d2 q → (∀ v d F' H', Ext [] F H F' H' → Same F' H' → Rep K F' v d → q d → Q v H') → r x y H Q
def wOp (g : D → D → (D → Prop) → Prop) (wa wb : EW) : EW := fun τ q e => wa τ (fun d1 τ1 => wb τ1 (fun d2 τ2 => g d1 d2 fun d => q d τ2) e) e
theorem de_op {r : R2} {g : D → D → (D → Prop) → Prop} {ta tb : TE} {wa wb : EW} (o : Op2 K r g) (ha : DE K W ta wa) (hb : DE K W tb wb) : DE K W (tOp r ta tb) (wOp g wa wb) := by
  refine ⟨fun σ H τ F Q q e S h k x => ?_⟩
  refine ha.run σ H τ F _ _ e S h (fun v1 d1 τ1 F1 H1 t1 r1 h1 => ?_) x
  refine hb.run σ H1 τ1 F1 _ _ e t1.ok h1 (fun v2 d2 τ2 F2 H2 t2 r2 h2 => ?_) (x.of t1)
  refine o F2 H2 v1 v2 d1 d2 _ Q t2.ok.sub (r1.mono t2.ext.f) r2 h2 fun v d F3 H3 e3 s3 r3 h3 => ?_
  exact k v d τ2 F3 H3 ((t1.trans t2).trans (.small t2.ok e3 s3)) r3 h3
def g2I (f : Int → Int → D) : D → D → (D → Prop) → Prop := fun x y q => ∃ i j, x = .int i ∧ y = .int j ∧ q (f i j)
def g2IC (C : Int → Int → Prop) (f : Int → Int → D) : D → D → (D → Prop) → Prop := fun x y q => ∃ i j, x = .int i ∧ y = .int j ∧ C i j ∧ q (f i j)
theorem Rep.int_of {F : Hp} {v : V} {i : Int} (h : Rep K F v (.int i)) : v = .int i := by cases h; rfl
theorem Rep.bl_of {F : Hp} {v : V} {i : Bool} (h : Rep K F v (.bl i)) : v = .bl i := by cases h; rfl
theorem op2I {f : Int → Int → V} {g : Int → Int → D} (h : ∀ F i j, Rep K F (f i j) (g i j)) : Op2 K (rI0 f) (g2I g) := by
  rintro F H x y d1 d2 q Q s r1 r2 ⟨i, j, rfl, rfl, hq⟩ k
  exact ⟨i, j, r1.int_of, r2.int_of, k _ _ F H (.refl _ _ _) s (h F i j) hq⟩
theorem op2IC {C : Int → Int → Prop} {f : Int → Int → V} {g : Int → Int → D} (h : ∀ F i j, Rep K F (f i j) (g i j)) : Op2 K (rI C f) (g2IC C g) := by
  rintro F H x y d1 d2 q Q s r1 r2 ⟨i, j, rfl, rfl, hc, hq⟩ k
  exact ⟨i, j, r1.int_of, r2.int_of, hc, k _ _ F H (.refl _ _ _) s (h F i j) hq⟩
theorem o_add : Op2 K (rI0 fun i j => .int (i + j)) (g2I fun i j => .int (i + j)) := op2I fun _ _ _ => .int _
theorem o_sub : Op2 K (rI0 fun i j => .int (i - j)) (g2I fun i j => .int (i - j)) := op2I fun _ _ _ => .int _
theorem o_lt : Op2 K (rI0 fun i j => .bl (decide (i < j))) (g2I fun i j => .bl (decide (i < j))) := op2I fun _ _ _ => .bl _
theorem o_le : Op2 K (rI0 fun i j => .bl (decide (i ≤ j))) (g2I fun i j => .bl (decide (i ≤ j))) := op2I fun _ _ _ => .bl _
theorem o_gt : Op2 K (rI0 fun i j => .bl (decide (j < i))) (g2I fun i j => .bl (decide (j < i))) := op2I fun _ _ _ => .bl _
theorem o_ge : Op2 K (rI0 fun i j => .bl (decide (j ≤ i))) (g2I fun i j => .bl (decide (j ≤ i))) := op2I fun _ _ _ => .bl _
theorem o_mul : Op2 K (rI CMul fun i j => .int (i * j)) (g2IC CMul fun i j => .int (i * j)) := op2IC fun _ _ _ => .int _
theorem o_fdiv : Op2 K (rI CDiv fun i j => .int (i / j)) (g2IC CDiv fun i j => .int (i / j)) := op2IC fun _ _ _ => .int _
theorem o_mod : Op2 K (rI (fun _ j => 0 < j) fun i j => .int (i % j)) (g2IC (fun _ j => 0 < j) fun i j => .int (i % j)) := op2IC fun _ _ _ => .int _
theorem o_pow : Op2 K (rI CPow fun i j => .int (i ^ j.toNat)) (g2IC CPow fun i j => .int (i ^ j.toNat)) := op2IC fun _ _ _ => .int _

end
end L3

/-! ## expressions, on -/
namespace L3
open PySem PySem.Spec PyProof.Rows L2
variable [TB : TabT]
section
variable {K : PySem.W.Frag} {W : WX}

/-- an expression and its reading by data -/
def CE (X : Cx) (W : WX) (e : Expr) (w : EW) : Prop := ∃ t, PE X e t ∧ DE X.K W t w
def CT (X : Cx) (W : WX) (e : Expr) (w : TW) : Prop := ∃ t, PT X e t ∧ DT X.K W t w
def CA (X : Cx) (W : WX) (es : List Expr) (w : AW) : Prop := ∃ t, PA X es t ∧ DA X.K W t w

def wB (we : EW) : TW := fun τ q e => we τ (fun d τ' => ∃ b, d = .bl b ∧ q b τ') e
theorem dt_B {t : TE} {w : EW} (h : DE K W t w) : DT K W (tB t) (wB w) := by
  refine ⟨fun σ H τ F Q q e S hw k x => h.run σ H τ F _ _ e S hw (fun v d τ' F' H' t' r ⟨b, e', hq⟩ => ?_) x⟩
  subst e'
  exact ⟨b, r.bl_of, k b τ' F' H' t' hq⟩
def wNot (wt : TW) : TW := fun τ q e => wt τ (fun b τ' => q (!b) τ') e
theorem dt_not {t : TT} {w : TW} (h : DT K W t w) : DT K W (tNot t) (wNot w) :=
  ⟨fun σ H τ F Q q e S hw k x => h.run σ H τ F _ _ e S hw (fun b τ' F' H' t' hq => k _ τ' F' H' t' hq) x⟩
def wAnd (wa wb : TW) : TW := fun τ q e => wa τ (fun b τ' => (b = true → wb τ' q e) ∧ (b = false → q false τ')) e
theorem dt_and {t u : TT} {w v : TW} (h : DT K W t w) (g : DT K W u v) : DT K W (tAnd t u) (wAnd w v) := by
  refine ⟨fun σ H τ F Q q e S hw k x => h.run σ H τ F _ _ e S hw (fun b τ' F' H' t' ⟨h1, h2⟩ => ?_) x⟩
  cases b with
  | true =>
    refine iteT ?_
    exact g.run σ H' τ' F' _ _ e t'.ok (h1 rfl) (fun b τ2 F2 H2 t2 hq => k b τ2 F2 H2 (t'.trans t2) hq) (x.of t')
  | false => exact iteF (k false τ' F' H' t' (h2 rfl))
def wOr (wa wb : TW) : TW := fun τ q e => wa τ (fun b τ' => (b = false → wb τ' q e) ∧ (b = true → q true τ')) e
theorem dt_or {t u : TT} {w v : TW} (h : DT K W t w) (g : DT K W u v) : DT K W (tOr t u) (wOr w v) := by
  refine ⟨fun σ H τ F Q q e S hw k x => h.run σ H τ F _ _ e S hw (fun b τ' F' H' t' ⟨h1, h2⟩ => ?_) x⟩
  cases b with
  | false =>
    refine iteF ?_
    exact g.run σ H' τ' F' _ _ e t'.ok (h1 rfl) (fun b τ2 F2 H2 t2 hq => k b τ2 F2 H2 (t'.trans t2) hq) (x.of t')
  | true => exact iteT (k true τ' F' H' t' (h2 rfl))
def wAndV (wa wb : EW) : EW := fun τ q e => wa τ (fun d τ' => ∃ b, d = .bl b ∧ (b = true → wb τ' q e) ∧ (b = false → q (.bl false) τ')) e
theorem de_and {t u : TE} {w v : EW} (h : DE K W t w) (g : DE K W u v) : DE K W (tAndV t u) (wAndV w v) := by
  refine ⟨fun σ H τ F Q q e S hw k x => h.run σ H τ F _ _ e S hw (fun z d τ' F' H' t' r ⟨b, e', h1, h2⟩ => ?_) x⟩
  subst e'
  refine ⟨b, r.bl_of, ?_⟩
  cases b with
  | true =>
    refine iteT ?_
    exact g.run σ H' τ' F' _ _ e t'.ok (h1 rfl) (fun z b τ2 F2 H2 t2 r2 hq => k z b τ2 F2 H2 (t'.trans t2) r2 hq) (x.of t')
  | false => exact iteF (k _ _ τ' F' H' t' (.bl false) (h2 rfl))
def wOrV (wa wb : EW) : EW := fun τ q e => wa τ (fun d τ' => ∃ b, d = .bl b ∧ (b = false → wb τ' q e) ∧ (b = true → q (.bl true) τ')) e
theorem de_or {t u : TE} {w v : EW} (h : DE K W t w) (g : DE K W u v) : DE K W (tOrV t u) (wOrV w v) := by
  refine ⟨fun σ H τ F Q q e S hw k x => h.run σ H τ F _ _ e S hw (fun z d τ' F' H' t' r ⟨b, e', h1, h2⟩ => ?_) x⟩
  subst e'
  refine ⟨b, r.bl_of, ?_⟩
  cases b with
  | false =>
    refine iteF ?_
    exact g.run σ H' τ' F' _ _ e t'.ok (h1 rfl) (fun z b τ2 F2 H2 t2 r2 hq => k z b τ2 F2 H2 (t'.trans t2) r2 hq) (x.of t')
  | true => exact iteT (k _ _ τ' F' H' t' (.bl true) (h2 rfl))
def wNotV (wa : EW) : EW := fun τ q e => wa τ (fun d τ' => ∃ b, d = .bl b ∧ q (.bl (!b)) τ') e
theorem de_not {t : TE} {w : EW} (h : DE K W t w) : DE K W (tNotV t) (wNotV w) := by
  refine ⟨fun σ H τ F Q q e S hw k x => h.run σ H τ F _ _ e S hw (fun z d τ' F' H' t' r ⟨b, e', h1⟩ => ?_) x⟩
  subst e'
  exact ⟨b, r.bl_of, k _ _ τ' F' H' t' (.bl _) h1⟩
def wIf (wc : TW) (wa wb : EW) : EW := fun τ q e => wc τ (fun b τ' => (b = true → wa τ' q e) ∧ (b = false → wb τ' q e)) e
theorem de_if {c : TT} {t u : TE} {wc : TW} {w v : EW} (h : DT K W c wc) (g : DE K W t w) (l : DE K W u v) : DE K W (tIf c t u) (wIf wc w v) := by
  refine ⟨fun σ H τ F Q q e S hw k x => h.run σ H τ F _ _ e S hw (fun b τ' F' H' t' ⟨h1, h2⟩ => ?_) x⟩
  cases b with
  | true =>
    refine iteT ?_
    exact g.run σ H' τ' F' _ _ e t'.ok (h1 rfl) (fun z b τ2 F2 H2 t2 r2 hq => k z b τ2 F2 H2 (t'.trans t2) r2 hq) (x.of t')
  | false =>
    refine iteF ?_
    exact l.run σ H' τ' F' _ _ e t'.ok (h2 rfl) (fun z b τ2 F2 H2 t2 r2 hq => k z b τ2 F2 H2 (t'.trans t2) r2 hq) (x.of t')
def wChain (g g' : D → D → (D → Prop) → Prop) (wa wb wc : EW) : EW := fun τ q e => wa τ (fun d1 τ1 => wb τ1 (fun d2 τ2 => g d1 d2 fun d => ∃ b, d = .bl b ∧
  (b = true → wc τ2 (fun d3 τ3 => g' d2 d3 fun d => q d τ3) e) ∧ (b = false → q (.bl false) τ2)) e) e
theorem de_chain {r r' : R2} {g g' : D → D → (D → Prop) → Prop} {ta tb tc : TE} {wa wb wc : EW} (o : Op2 K r g) (o' : Op2 K r' g') (ha : DE K W ta wa) (hb : DE K W tb wb) (hc : DE K W tc wc) : DE K W (tChain r r' ta tb tc) (wChain g g' wa wb wc) := by
  refine ⟨fun σ H τ F Q q e S h k x => ?_⟩
  refine ha.run σ H τ F _ _ e S h (fun v1 d1 τ1 F1 H1 t1 r1 h1 => ?_) x
  refine hb.run σ H1 τ1 F1 _ _ e t1.ok h1 (fun v2 d2 τ2 F2 H2 t2 r2 h2 => ?_) (x.of t1)
  refine o F2 H2 v1 v2 d1 d2 _ _ t2.ok.sub (r1.mono t2.ext.f) r2 h2 fun v d F3 H3 e3 s3 r3 ⟨b, eb, h3, h4⟩ => ?_
  subst eb
  have t3 : To K F2 H2 σ τ2 F3 H3 τ2 := .small t2.ok e3 s3
  have t03 := (t1.trans t2).trans t3
  refine ⟨b, r3.bl_of, ?_⟩
  cases b with
  | false => exact iteF (k _ _ τ2 F3 H3 t03 (.bl false) (h4 rfl))
  | true =>
    refine iteT ?_
    refine hc.run σ H3 τ2 F3 _ _ e t3.ok (h3 rfl) (fun v4 d4 τ4 F4 H4 t4 r4 h5 => ?_) (x.of t03)
    refine o' F4 H4 v2 v4 d2 d4 _ Q t4.ok.sub (r2.mono ((e3.f).trans t4.ext.f)) r4 h5 fun v d F5 H5 e5 s5 r5 h6 => ?_
    exact k v d τ4 F5 H5 ((t03.trans t4).trans (.small t4.ok e5 s5)) r5 h6

/-! ### arguments, calls of built-ins -/
def wNil : AW := fun τ q _ => q [] τ
def wCons (we : EW) (wa : AW) : AW := fun τ q e => we τ (fun d τ1 => wa τ1 (fun ds τ2 => q (d :: ds) τ2) e) e
theorem da_nil : DA K W tNil wNil := ⟨fun σ H τ F Q q e S hq k _ => k [] [] τ F H (.refl S) .nil hq⟩
theorem da_cons {t : TE} {u : TA} {w : EW} {v : AW} (h : DE K W t w) (g : DA K W u v) : DA K W (tCons t u) (wCons w v) := by
  refine ⟨fun σ H τ F Q q e S hw k x => h.run σ H τ F _ _ e S hw (fun z d τ' F' H' t' r h1 => ?_) x⟩
  refine g.run σ H' τ' F' _ _ e t'.ok h1 (fun zs ds τ2 F2 H2 t2 r2 hq => ?_) (x.of t')
  exact k (z :: zs) (d :: ds) τ2 F2 H2 (t'.trans t2) (.cons (r.mono t2.ext.f) r2) hq
def OpN (K : PySem.W.Frag) (r : List V → Hp → VK → Prop) (g : List D → (D → Prop) → Prop) : Prop :=
  ∀ F H xs ds (q : D → Prop) Q, Same F H → Reps K F xs ds → g ds q → (∀ v d F' H', Ext [] F H F' H' → Same F' H' → Rep K F' v d → q d → Q v H') → r xs H Q
def wCB (g : List D → (D → Prop) → Prop) (wa : AW) : EW := fun τ q e => wa τ (fun ds τ' => g ds fun d => q d τ') e
theorem de_cb {r : List V → Hp → VK → Prop} {g : List D → (D → Prop) → Prop} {t : TA} {w : AW} (o : OpN K r g) (h : DA K W t w) : DE K W (tCB r t) (wCB g w) := by
  refine ⟨fun σ H τ F Q q e S hw k x => h.run σ H τ F _ _ e S hw (fun zs ds τ' F' H' t' r' h1 => ?_) x⟩
  refine o F' H' zs ds _ Q t'.ok.sub r' h1 fun v d F2 H2 e2 s2 r2 hq => ?_
  exact k v d τ' F2 H2 (t'.trans (.small t'.ok e2 s2)) r2 hq
def seqD : D → Option (List D)
  | .tup ds => some ds | .lst ds => some ds | .fl ds => some ds | _ => none
theorem Rep.seq {F : Hp} {v : V} {d : D} {ds : List D} (h : Rep K F v d) (e : seqD d = some ds) : ∃ a xs, v = .ref a ∧ (SqL K F a xs ∨ SqT K F a xs) ∧ Reps K F xs ds := by
  cases h with
  | tup h r => cases e; exact ⟨_, _, rfl, .inr h, r⟩
  | lst h r => cases e; exact ⟨_, _, rfl, .inl (.inl (.inl h)), r⟩
  | fl h r => cases e; exact ⟨_, _, rfl, .inl h, r⟩
  | _ => cases e
theorem Reps.one {F : Hp} {xs : List V} {d : D} (h : Reps K F xs [d]) : ∃ v, xs = [v] ∧ Rep K F v d := by
  cases h with
  | cons h t => cases t; exact ⟨_, rfl, h⟩
theorem Reps.two {F : Hp} {xs : List V} {d d' : D} (h : Reps K F xs [d, d']) : ∃ v v', xs = [v, v'] ∧ Rep K F v d ∧ Rep K F v' d' := by
  cases h with
  | cons h t => obtain ⟨u, rfl, r⟩ := Reps.one t; exact ⟨_, _, rfl, h, r⟩
def gLen : List D → (D → Prop) → Prop := fun ds q => ∃ d es, ds = [d] ∧ seqD d = some es ∧ q (.int es.length)
def rLenS (K : PySem.W.Frag) : List V → Hp → VK → Prop := fun xs H Q => ∃ p ys, xs = [.ref p] ∧ (SqL K H p ys ∨ SqT K H p ys) ∧ Q (.int ys.length) H
theorem o_len : OpN K (rLenS K) gLen := by
  rintro F H xs ds q Q s r ⟨d, es, rfl, e, hq⟩ k
  obtain ⟨v, rfl, r1⟩ := r.one
  obtain ⟨a, ys, rfl, h, r2⟩ := r1.seq e
  refine ⟨a, ys, rfl, h.imp (fun h => s.seq h) (fun h => SqT_mono s h), ?_⟩
  exact k _ (.int es.length) F H (.refl _ _ _) s (by rw [r2.length]; exact .int _) hq
structure InsTy (K : PySem.W.Frag) (C : Addr) : Prop where
  cl : Cls K C
  ha : PySem.W.findIn K (.ref C) "__class__" = some (some (.builtin "object.__class__"))
  hn : PySem.W.specialIn K (.builtin "object.__class__") "__get__" = some (some (.builtin "getset_descriptor.__get__"))
  ht : PySem.W.takesIn K (.builtin "object.__class__") = some true
  hm : PySem.W.mroIn K C (.type "object") = some true
/-- its type is known -/
def TyOk (K : PySem.W.Frag) (d : D) : Prop := noTy d ∨ ∃ C gs, d = .ins C gs ∧ InsTy K C
theorem Rep.tyO {F : Hp} {v : V} {d : D} (h : Rep K F v d) (n : TyOk K d) : TyX K F v (tyD d) := by
  rcases n with n | ⟨C, gs, rfl, c⟩
  · exact h.tyX n
  · cases h with
    | ins ea _ => exact .base (.ins ea c.cl c.ha c.hn c.ht c.hm)
def gIsi (K : PySem.W.Frag) : List D → (D → Prop) → Prop := fun ds q => ∃ d n b, ds = [d, .ty n] ∧ TyOk K d ∧ PySem.W.kitOne K (tyD d) (.type n) = some b ∧ q (.bl b)
theorem o_isi : OpN K (rIsi K) (gIsi K) := by
  rintro F H xs ds q Q s r ⟨d, n, b, rfl, nt, e, hq⟩ k
  obtain ⟨v, v', rfl, r1, r2⟩ := r.two
  cases r2
  exact ⟨v, .ty n, tyD d, .type n, b, rfl, .ty n, TyX_mono s (r1.tyO nt), e, k _ (.bl b) F H (.refl _ _ _) s (.bl b) hq⟩
def rAbs : List V → Hp → VK → Prop := fun xs H Q => ∃ i, xs = [.int i] ∧ Q (.int (if i < 0 then -i else i)) H
def gAbs : List D → (D → Prop) → Prop := fun ds q => ∃ i, ds = [.int i] ∧ q (.int (if i < 0 then -i else i))
theorem o_abs : OpN K rAbs gAbs := by
  rintro F H xs ds q Q s r ⟨i, rfl, hq⟩ k
  obtain ⟨v, rfl, r1⟩ := r.one
  exact ⟨i, by rw [r1.int_of], k _ _ F H (.refl _ _ _) s (.int _) hq⟩
def gGcd : List D → (D → Prop) → Prop := fun ds q => ∃ i j : Int, ds = [.int i, .int j] ∧ q (.int ((Nat.gcd i.natAbs j.natAbs : Nat) : Int))
theorem o_gcd : OpN K rGcd gGcd := by
  rintro F H xs ds q Q s r ⟨i, j, rfl, hq⟩ k
  obtain ⟨v, v', rfl, r1, r2⟩ := r.two
  exact ⟨i, j, by rw [r1.int_of, r2.int_of], k _ _ F H (.refl _ _ _) s (.int _) hq⟩
def gAll : List D → (D → Prop) → Prop := fun ds q => ∃ (es : List D) (bs : List Bool), (ds = [.lst es] ∨ ds = [.fl es]) ∧ es = bs.map D.bl ∧ q (.bl (bs.all id))
theorem o_all : OpN K (rAll K) gAll := by
  rintro F H xs ds q Q s r ⟨es, bs, e, rfl, hq⟩ k
  rcases e with rfl | rfl
  · obtain ⟨v, rfl, r1⟩ := r.one
    cases r1 with
    | lst h r2 =>
      have := Reps.bls r2
      subst this
      exact ⟨_, bs, rfl, .inl (.inl (s _ _ h)), k _ _ F H (.refl _ _ _) s (.bl _) hq⟩
  · obtain ⟨v, rfl, r1⟩ := r.one
    cases r1 with
    | fl h r2 =>
      have := Reps.bls r2
      subst this
      exact ⟨_, bs, rfl, s.seq h, k _ _ F H (.refl _ _ _) s (.bl _) hq⟩
def rInt1 : List V → Hp → VK → Prop := fun xs H Q => (∃ i, xs = [.int i] ∧ Q (.int i) H) ∨ ∃ k, xs = [.bl k] ∧ Q (.int (if k then 1 else 0)) H
def numD3 : D → Option Int | .int i => some i | .bl k => some (if k then 1 else 0) | _ => none
def gInt1 : List D → (D → Prop) → Prop := fun ds q => ∃ d i, ds = [d] ∧ numD3 d = some i ∧ q (.int i)
theorem o_int1 : OpN K rInt1 gInt1 := by
  rintro F H xs ds q Q s r ⟨d, i, rfl, e, hq⟩ k
  obtain ⟨v, rfl, r1⟩ := r.one
  cases d <;> simp [numD3] at e
  · subst e
    exact .inr ⟨_, by rw [r1.bl_of], k _ _ F H (.refl _ _ _) s (.int _) hq⟩
  · subst e
    exact .inl ⟨_, by rw [r1.int_of], k _ _ F H (.refl _ _ _) s (.int _) hq⟩
def rTupleOf (K : PySem.W.Frag) : List V → Hp → VK → Prop := fun xs H Q => ∃ p ys, xs = [.ref p] ∧ ((SqL K H p ys ∧ ∀ l, H l = none → Q (.ref l) (upd H l (.tup ys))) ∨ (SqT K H p ys ∧ Q (.ref p) H))
def gTupleOf : List D → (D → Prop) → Prop := fun ds q => ∃ d es, ds = [d] ∧ seqD d = some es ∧ q (.tup es)
theorem new_ext {F H : Hp} {p : Addr} {o : HO} (s : Same F H) (h : H p = none) (nt : NT o := by intro ps z; cases z) : Ext [] F H (upd F p o) (upd H p o) ∧ Same (upd F p o) (upd H p o) := by
  refine ⟨Ext.laid s h nt, fun a u e => ?_⟩
  by_cases q : a = p
  · subst q; rw [upd_same] at e ⊢; exact e
  · rw [upd_ne q] at e ⊢; exact s _ _ e
theorem new_none {F H : Hp} {p : Addr} (s : Same F H) (h : H p = none) : F p = none := by
  cases q : F p with
  | none => rfl
  | some u => rw [s _ _ q] at h; cases h
theorem new_same {F H : Hp} {p : Addr} {o : HO} (s : Same F H) (h : H p = none) : Same F (upd F p o) := fun a u e => by
  rw [upd_ne (ne_of_none e (new_none s h))]
  exact e
theorem o_tupleOf : OpN K (rTupleOf K) gTupleOf := by
  rintro F H xs ds q Q s r ⟨d, es, rfl, e, hq⟩ k
  obtain ⟨v, rfl, r1⟩ := r.one
  obtain ⟨a, ys, rfl, h, r2⟩ := r1.seq e
  rcases h with h | h
  · refine ⟨a, ys, rfl, .inl ⟨s.seq h, fun l hl => ?_⟩⟩
    obtain ⟨x1, x2⟩ := new_ext (o := .tup ys) s hl
    exact k _ (.tup es) _ _ x1 x2 (.tup (.inl (.inl upd_same)) (r2.mono (new_same s hl))) hq
  · exact ⟨a, ys, rfl, .inr ⟨SqT_mono s h, k _ (.tup es) F H (.refl _ _ _) s (.tup h r2) hq⟩⟩
def rListOf (K : PySem.W.Frag) : List V → Hp → VK → Prop := fun xs H Q => ∃ p ys, xs = [.ref p] ∧ (SqL K H p ys ∨ SqT K H p ys) ∧ ∀ l, H l = none → Q (.ref l) (upd H l (.lst ys))
def gListOf : List D → (D → Prop) → Prop := fun ds q => ∃ d es, ds = [d] ∧ seqD d = some es ∧ q (.lst es)
theorem o_listOf : OpN K (rListOf K) gListOf := by
  rintro F H xs ds q Q s r ⟨d, es, rfl, e, hq⟩ k
  obtain ⟨v, rfl, r1⟩ := r.one
  obtain ⟨a, ys, rfl, h, r2⟩ := r1.seq e
  refine ⟨a, ys, rfl, h.imp (fun h => s.seq h) (fun h => SqT_mono s h), fun l hl => ?_⟩
  obtain ⟨x1, x2⟩ := new_ext (o := .lst ys) s hl
  exact k _ (.lst es) _ _ x1 x2 (.lst upd_same (r2.mono (new_same s hl))) hq

/-! ### subscripts, displays, slices -/
def gIx : D → D → (D → Prop) → Prop := fun x y q => ∃ es i d, seqD x = some es ∧ y = .int i ∧ atI es i = some d ∧ q d
theorem atI_rep {F : Hp} {xs : List V} {ds : List D} {i : Int} {d : D} (r : Reps K F xs ds) (e : atI ds i = some d) : ∃ v, atI xs i = some v ∧ Rep K F v d := by
  unfold atI at e ⊢
  rw [r.length]
  cases h : ixN ds.length i with
  | none => rw [h] at e; cases e
  | some j =>
    rw [h] at e
    exact r.getD e
theorem o_ix : Op2 K (rIx K) gIx := by
  rintro F H x y d1 d2 q Q s r1 r2 ⟨es, i, d, e, rfl, ei, hq⟩ k
  obtain ⟨a, xs, rfl, h, r3⟩ := r1.seq e
  obtain ⟨v, ev, rv⟩ := atI_rep r3 ei
  have fin : Q v H := k v d F H (.refl _ _ _) s rv hq
  rcases h with h | h
  · exact .inl ⟨a, xs, i, v, rfl, r2.int_of, s.seq h, ev, fin⟩
  · exact .inr (.inl ⟨a, xs, i, v, rfl, r2.int_of, SqT_mono s h, ev, fin⟩)
def wTup (wa : AW) : EW := fun τ q e => wa τ (fun ds τ' => ds.length ≤ 1000 ∧ q (.tup ds) τ') e
theorem de_tup {t : TA} {w : AW} (h : DA K W t w) : DE K W (tTup t) (wTup w) := by
  refine ⟨fun σ H τ F Q q e S hw k x => h.run σ H τ F _ _ e S hw (fun zs ds τ' F' H' t' r' ⟨hl, hq⟩ => ?_) x⟩
  refine ⟨by rw [r'.length]; exact Nat.le_of_lt (small1000 hl), fun p hp => ?_⟩
  obtain ⟨x1, x2⟩ := new_ext (o := .tup zs) t'.ok.sub hp
  exact k _ (.tup ds) τ' _ _ (t'.trans (.small t'.ok x1 x2)) (.tup (.inl (.inl upd_same)) (r'.mono (new_same t'.ok.sub hp))) hq
def wLst (wa : AW) : EW := fun τ q e => wa τ (fun ds τ' => ds.length ≤ 1000 ∧ q (.lst ds) τ') e
theorem de_lst {t : TA} {w : AW} (h : DA K W t w) : DE K W (tLst t) (wLst w) := by
  refine ⟨fun σ H τ F Q q e S hw k x => h.run σ H τ F _ _ e S hw (fun zs ds τ' F' H' t' r' ⟨hl, hq⟩ => ?_) x⟩
  refine ⟨by rw [r'.length]; exact Nat.le_of_lt (small1000 hl), fun p hp => ?_⟩
  obtain ⟨x1, x2⟩ := new_ext (o := .lst zs) t'.ok.sub hp
  exact k _ (.lst ds) τ' _ _ (t'.trans (.small t'.ok x1 x2)) (.lst upd_same (r'.mono (new_same t'.ok.sub hp))) hq
abbrev OW := List Cell → (Option Int → List Cell → Prop) → (Xn → List Cell → Prop) → Prop
structure DO (K : PySem.W.Frag) (W : WX) (t : TO) (w : OW) : Prop where
  run : ∀ σ H τ F Q q e, SOk K F H σ τ → w τ q e → (∀ b τ' F' H', To K F H σ τ F' H' τ' → q b τ' → Q b H') → XTo K W F H σ τ e → t σ H Q
def wNoPart : OW := fun τ q _ => q none τ
def wPart (we : EW) : OW := fun τ q e => we τ (fun d τ' => ∃ i, d = .int i ∧ q (some i) τ') e
theorem do_no : DO K W tNoPart wNoPart := ⟨fun σ H τ F Q q e S hq k _ => k none τ F H (.refl S) hq⟩
theorem do_part {t : TE} {w : EW} (h : DE K W t w) : DO K W (tPart t) (wPart w) := by
  refine ⟨fun σ H τ F Q q e S hw k x => h.run σ H τ F _ _ e S hw (fun z d τ' F' H' t' r ⟨i, ei, hq⟩ => ?_) x⟩
  subst ei
  exact ⟨i, r.int_of, k _ τ' F' H' t' hq⟩
def cutDs {α : Type} (xs : List α) (lo hi : Option Int) : List α := (xs.drop (HT.sIx xs.length 0 lo)).take (HT.sIx xs.length xs.length hi - HT.sIx xs.length 0 lo)
theorem cut_rep {F : Hp} {xs : List V} {ds : List D} {lo hi : Option Int} (r : Reps K F xs ds) : Reps K F (cutV xs lo hi) (cutDs ds lo hi) := by
  unfold cutV cutDs
  rw [r.length]
  exact (r.drop _).take _
/-- a slice of a tuple (the whole of it is the tuple itself) or of a list -/
def rSlA (K : PySem.W.Frag) : V → Option Int → Option Int → Hp → VK → Prop := fun x lo hi H Q => rSlT K x lo hi H Q ∨ rSlL K x lo hi H Q
def wSlT (we : EW) (wl wh : OW) : EW := fun τ q e => we τ (fun d τ1 => wl τ1 (fun lo τ2 => wh τ2 (fun hi τ3 => ∃ es, d = .tup es ∧ ¬ (HT.sIx es.length 0 lo = 0 ∧ HT.sIx es.length es.length hi = es.length) ∧ q (.tup (cutDs es lo hi)) τ3) e) e) e
theorem de_slT {t : TE} {tl th : TO} {w : EW} {wl wh : OW} (h : DE K W t w) (hl : DO K W tl wl) (hh : DO K W th wh) : DE K W (tSl (rSlT K) t tl th) (wSlT w wl wh) := by
  refine ⟨fun σ H τ F Q q e S hw k x => h.run σ H τ F _ _ e S hw (fun z d τ1 F1 H1 t1 r1 h1 => ?_) x⟩
  refine hl.run σ H1 τ1 F1 _ _ e t1.ok h1 (fun lo τ2 F2 H2 t2 h2 => ?_) (x.of t1)
  refine hh.run σ H2 τ2 F2 _ _ e t2.ok h2 (fun hi τ3 F3 H3 t3 h3 => ?_) (x.of (t1.trans t2))
  obtain ⟨es, rfl, hn, hq⟩ := h3
  have r3 := (r1.mono t2.ext.f).mono t3.ext.f
  cases r3 with
  | @tup a xs _ hs r =>
    refine ⟨a, xs, rfl, SqT_mono t3.ok.sub hs, by rw [r.length]; exact hn, fun p hp => ?_⟩
    obtain ⟨x1, x2⟩ := new_ext (o := .tup (cutV xs lo hi)) t3.ok.sub hp
    exact k _ (.tup (cutDs es lo hi)) τ3 _ _ (((t1.trans t2).trans t3).trans (.small t3.ok x1 x2)) (.tup (.inl (.inl upd_same)) ((cut_rep r).mono (new_same t3.ok.sub hp))) hq
def wSlL (we : EW) (wl wh : OW) : EW := fun τ q e => we τ (fun d τ1 => wl τ1 (fun lo τ2 => wh τ2 (fun hi τ3 => ∃ es, (d = .lst es ∨ d = .fl es) ∧ q (.lst (cutDs es lo hi)) τ3) e) e) e
theorem de_slL {t : TE} {tl th : TO} {w : EW} {wl wh : OW} (h : DE K W t w) (hl : DO K W tl wl) (hh : DO K W th wh) : DE K W (tSl (rSlL K) t tl th) (wSlL w wl wh) := by
  refine ⟨fun σ H τ F Q q e S hw k x => h.run σ H τ F _ _ e S hw (fun z d τ1 F1 H1 t1 r1 h1 => ?_) x⟩
  refine hl.run σ H1 τ1 F1 _ _ e t1.ok h1 (fun lo τ2 F2 H2 t2 h2 => ?_) (x.of t1)
  refine hh.run σ H2 τ2 F2 _ _ e t2.ok h2 (fun hi τ3 F3 H3 t3 h3 => ?_) (x.of (t1.trans t2))
  obtain ⟨es, ed, hq⟩ := h3
  have r3 := (r1.mono t2.ext.f).mono t3.ext.f
  have : ∃ a xs, z = .ref a ∧ SqL K F3 a xs ∧ Reps K F3 xs es := by
    rcases ed with rfl | rfl
    · cases r3 with
      | lst h r => exact ⟨_, _, rfl, .inl (.inl h), r⟩
    · cases r3 with
      | fl h r => exact ⟨_, _, rfl, h, r⟩
  obtain ⟨a, xs, rfl, hs, r⟩ := this
  refine ⟨a, xs, rfl, t3.ok.sub.seq hs, fun p hp => ?_⟩
  obtain ⟨x1, x2⟩ := new_ext (o := .lst (cutV xs lo hi)) t3.ok.sub hp
  exact k _ (.lst (cutDs es lo hi)) τ3 _ _ (((t1.trans t2).trans t3).trans (.small t3.ok x1 x2)) (.lst upd_same ((cut_rep r).mono (new_same t3.ok.sub hp))) hq
/-- t + u -/
def gCatT : D → D → (D → Prop) → Prop := fun x y q => ∃ as bs, x = .tup as ∧ y = .tup bs ∧ as ≠ [] ∧ as.length + bs.length ≤ 1000 ∧ q (.tup (as ++ bs))
/-- xs + ys -/
def gCat : D → D → (D → Prop) → Prop := fun x y q => ∃ as bs, x = .lst as ∧ y = .lst bs ∧ as.length + bs.length ≤ 1000 ∧ q (.lst (as ++ bs))
theorem o_cat : Op2 K rCat gCat := by
  rintro F H x y d1 d2 q Q s r1 r2 ⟨as, bs, rfl, rfl, hl, hq⟩ k
  cases r1 with
  | @lst a xs _ h1 r1 =>
    cases r2 with
    | @lst b ys _ h2 r2 =>
      refine ⟨a, b, xs, ys, rfl, rfl, s _ _ h1, s _ _ h2, by rw [r1.length, r2.length]; exact Nat.le_of_lt (small1000 hl), fun p hp => ?_⟩
      obtain ⟨x1, x2⟩ := new_ext (o := .lst (xs ++ ys)) s hp
      exact k _ (.lst (as ++ bs)) _ _ x1 x2 (.lst upd_same ((r1.append r2).mono (new_same s hp))) hq
end
end L3

/-! ## what is walked, targets, comprehensions -/
namespace L3
open PySem PySem.Spec PyProof.Rows L2
variable [TB : TabT]

/-- a list or a tuple that is walked -/
def iSeq (K : PySem.W.Frag) (tl : TE) : TI := fun σ H R => tl σ H fun x H1 => ∃ a, x = .ref a ∧ (((∃ xs, SqL K H1 a xs) ∧ R (Itl K a) H1) ∨ ((∃ xs, SqT K H1 a xs) ∧ R (Itt K a) H1))
theorem pi_seq {X : Cx} {tg l : Expr} {tl : TE} (hl : PE X l tl) : PI X tg l (iSeq X.K tl) := by
  refine ⟨fun pins st σ H R J hh => ?_⟩
  refine thn (hl.run pins st σ H _ J hh) fun val st1 ⟨y, G, J1, rel, way⟩ => ?_
  obtain ⟨adr, hy, way⟩ := way
  subst hy
  cases rel
  have kept : ∀ ob : Obj, Inv X pins σ G { st1 with heap := st1.heap.push ob } := fun ob => J1.kept (t' := st1.toks) fun c u q => Heap.get?_push_of_some _ q
  have fresh : ∀ c ∈ [st1.heap.objs.size], FpOk X pins G c := fun c hc => by
    obtain rfl : c = st1.heap.objs.size := by simpa using hc
    exact J1.fpOk (Nat.le_refl _) (J1.hok.fresh (Nat.le_refl _))
  rcases way with ⟨⟨ys, hq⟩, q⟩ | ⟨⟨ys, hq⟩, q⟩
  · obtain ⟨its, rv, at_, _⟩ := J1.list hq
    exact wpAny_pyIter_list at_.isList ⟨st1.heap.objs.size, [st1.heap.objs.size], _, _, G, rfl, kept _, turn_list adr _, ⟨_, Heap.get?_push_size _ rfl, rfl, rfl⟩, fresh, q⟩
  · obtain ⟨its, rv, at_, _⟩ := J1.tuple hq
    exact wpAny_pyIter_tuple at_ ⟨st1.heap.objs.size, [st1.heap.objs.size], _, _, G, rfl, kept _, turn_tuple adr _, ⟨_, Heap.get?_push_size _ rfl, rfl, rfl⟩, fresh, q⟩

structure ItOk (K : PySem.W.Frag) (F : Hp) (J : It) (ds : List D) : Prop where
  go : ∀ i F2 H, Same F F2 → Same F2 H → i < ds.length → J.go i H
  stop : ∀ F2 H, Same F F2 → Same F2 H → J.stop ds.length H
  yld : ∀ i F2 H x H', Same F F2 → Same F2 H → i < ds.length → J.yld i H x H' → ∃ d F3, ds[i]? = some d ∧ Ext [] F2 H F3 H' ∧ Same F3 H' ∧ Rep K F3 x d
abbrev IW := List Cell → (List D → List Cell → Prop) → (Xn → List Cell → Prop) → Prop
structure DI (K : PySem.W.Frag) (W : WX) (t : TI) (w : IW) : Prop where
  run : ∀ σ H τ F R q e, SOk K F H σ τ → w τ q e → (∀ J ds τ' F' H', To K F H σ τ F' H' τ' → ItOk K F' J ds → q ds τ' → R J H') → XTo K W F H σ τ e → t σ H R
section
variable {K : PySem.W.Frag} {W : WX}
theorem it_list {F : Hp} {a : Addr} {xs : List V} {ds : List D} (h : SqL K F a xs) (r : Reps K F xs ds) : ItOk K F (Itl K a) ds := by
  refine ⟨fun i F2 H s s2 hi => ?_, fun F2 H s s2 => ⟨xs, s2.seq (s.seq h), by rw [r.length]; exact Nat.le_refl _⟩, fun i F2 H x H' s s2 hi y => ?_⟩
  · rw [← r.length] at hi
    exact ⟨xs, xs[i], s2.seq (s.seq h), List.getElem?_eq_getElem hi⟩
  · obtain ⟨rfl, e⟩ := y
    obtain ⟨d, e1, e2⟩ := (r.mono s).get (e xs (s2.seq (s.seq h)))
    exact ⟨d, F2, e1, .refl _ _ _, s2, e2⟩
theorem it_tup {F : Hp} {a : Addr} {xs : List V} {ds : List D} (h : SqT K F a xs) (r : Reps K F xs ds) : ItOk K F (Itt K a) ds := by
  refine ⟨fun i F2 H s s2 hi => ?_, fun F2 H s s2 => ⟨xs, SqT_mono s2 (SqT_mono s h), by rw [r.length]; exact Nat.le_refl _⟩, fun i F2 H x H' s s2 hi y => ?_⟩
  · rw [← r.length] at hi
    exact ⟨xs, xs[i], SqT_mono s2 (SqT_mono s h), List.getElem?_eq_getElem hi⟩
  · obtain ⟨rfl, e⟩ := y
    obtain ⟨d, e1, e2⟩ := (r.mono s).get (e xs (SqT_mono s2 (SqT_mono s h)))
    exact ⟨d, F2, e1, .refl _ _ _, s2, e2⟩
def rangeD (lo : Int) (n : Nat) : List D := (List.range n).map fun i => .int (lo + (i : Nat))
theorem rangeD_length {lo : Int} {n : Nat} : (rangeD lo n).length = n := by unfold rangeD; rw [List.length_map, List.length_range]
theorem rangeD_get {lo : Int} {n i : Nat} (h : i < n) : (rangeD lo n)[i]? = some (.int (lo + (i : Nat))) := by
  unfold rangeD
  rw [List.getElem?_map, List.getElem?_range h]
  rfl
theorem it_range {F : Hp} {lo : Int} {n : Nat} : ItOk K F (Itr lo n) (rangeD lo n) := by
  refine ⟨fun i F2 H s s2 hi => ?_, fun F2 H s s2 => ?_, fun i F2 H x H' s s2 hi y => ?_⟩
  · rw [rangeD_length] at hi; exact hi
  · rw [rangeD_length]; exact Nat.le_refl n
  · rw [rangeD_length] at hi
    obtain ⟨rfl, rfl⟩ := y
    exact ⟨_, F2, rangeD_get hi, .refl _ _ _, s2, .int _⟩
def wSeq (we : EW) : IW := fun τ q e => we τ (fun d τ' => ∃ es, seqD d = some es ∧ q es τ') e
theorem di_seq {t : TE} {w : EW} (h : DE K W t w) : DI K W (iSeq K t) (wSeq w) := by
  refine ⟨fun σ H τ F R q e S hw k x => h.run σ H τ F _ _ e S hw (fun v d τ' F' H' t' r ⟨es, ee, hq⟩ => ?_) x⟩
  obtain ⟨a, xs, rfl, hs, r2⟩ := r.seq ee
  rcases hs with hs | hs
  · exact ⟨a, rfl, .inl ⟨⟨xs, t'.ok.sub.seq hs⟩, k _ es τ' F' H' t' (it_list hs r2) hq⟩⟩
  · exact ⟨a, rfl, .inr ⟨⟨xs, SqT_mono t'.ok.sub hs⟩, k _ es τ' F' H' t' (it_tup hs r2) hq⟩⟩
def wRng1 (wa : AW) : IW := fun τ q e => wa τ (fun ds τ' => ∃ j : Int, ds = [.int j] ∧ -(2 ^ 62) ≤ j ∧ j < 2 ^ 62 ∧ q (rangeD 0 j.toNat) τ') e
theorem di_rng1 {t : TA} {w : AW} (h : DA K W t w) : DI K W (iRng1 t) (wRng1 w) := by
  refine ⟨fun σ H τ F R q e S hw k x => h.run σ H τ F _ _ e S hw (fun vs ds τ' F' H' t' r ⟨j, ej, h1, h2, hq⟩ => ?_) x⟩
  subst ej
  obtain ⟨v, rfl, r1⟩ := r.one
  exact ⟨j, by rw [r1.int_of], h1, h2, k _ _ τ' F' H' t' it_range hq⟩
def wRng2 (wa : AW) : IW := fun τ q e => wa τ (fun ds τ' => ∃ i j : Int, ds = [.int i, .int j] ∧ (-(2 ^ 62) ≤ i ∧ i < 2 ^ 62 ∧ -(2 ^ 62) ≤ j ∧ j < 2 ^ 62) ∧ q (rangeD i (j - i).toNat) τ') e
theorem di_rng2 {t : TA} {w : AW} (h : DA K W t w) : DI K W (iRng2 t) (wRng2 w) := by
  refine ⟨fun σ H τ F R q e S hw k x => h.run σ H τ F _ _ e S hw (fun vs ds τ' F' H' t' r ⟨i, j, ej, h1, hq⟩ => ?_) x⟩
  subst ej
  obtain ⟨v, v', rfl, r1, r2⟩ := r.two
  exact ⟨i, j, by rw [r1.int_of, r2.int_of], h1, k _ _ τ' F' H' t' it_range hq⟩
def zipD (xs ys : List D) : List D := List.zipWith (fun x y => .tup [x, y]) xs ys
theorem zip_get {xs ys : List D} {i : Nat} (h : i < (zipD xs ys).length) : ∃ x y, xs[i]? = some x ∧ ys[i]? = some y ∧ (zipD xs ys)[i]? = some (.tup [x, y]) := by
  have h' : i < min xs.length ys.length := by unfold zipD at h; rw [List.length_zipWith] at h; exact h
  have h1 : i < xs.length := by omega
  have h2 : i < ys.length := by omega
  refine ⟨xs[i], ys[i], List.getElem?_eq_getElem h1, List.getElem?_eq_getElem h2, ?_⟩
  unfold zipD
  rw [List.getElem?_zipWith, List.getElem?_eq_getElem h1, List.getElem?_eq_getElem h2]
theorem same_upd {H : Hp} {p : Addr} {o : HO} (h : H p = none) : Same H (upd H p o) := fun b x e => by
  rw [upd_ne (ne_of_none e h)]
  exact e
theorem it_zip {F : Hp} {J : It} {xs ys : List V} {ds es : List D} (r : Reps K F xs ds) (r' : Reps K F ys es) (hgo : ∀ i H x y, Same F H → xs[i]? = some x → ys[i]? = some y → J.go i H)
    (hst : ∀ i H, Same F H → (xs.length ≤ i ∨ ys.length ≤ i) → J.stop i H)
    (hy : ∀ i H v H', Same F H → J.yld i H v H' → ∃ T x y, v = .ref T ∧ H T = none ∧ H' = upd H T (.tup [x, y]) ∧ xs[i]? = some x ∧ ys[i]? = some y) : ItOk K F J (zipD ds es) := by
  refine ⟨fun i F2 H s s2 hi => ?_, fun F2 H s s2 => ?_, fun i F2 H x H' s s2 hi y => ?_⟩
  · obtain ⟨x, y, e1, e2, _⟩ := zip_get hi
    obtain ⟨v, h1, _⟩ := r.getD e1
    obtain ⟨u, h2, _⟩ := r'.getD e2
    exact hgo i H v u (s.trans s2) h1 h2
  · refine hst _ H (s.trans s2) ?_
    unfold zipD
    rw [List.length_zipWith, r.length, r'.length]
    omega
  · obtain ⟨T, u, v, rfl, hT, rfl, e1, e2⟩ := hy i H x H' (s.trans s2) y
    obtain ⟨a, b, f1, f2, f3⟩ := zip_get hi
    obtain ⟨a', g1, g2⟩ := (r.mono s).get e1
    obtain ⟨b', g3, g4⟩ := (r'.mono s).get e2
    rw [f1] at g1; cases g1
    rw [f2] at g3; cases g3
    obtain ⟨x1, x2⟩ := new_ext (o := .tup [u, v]) s2 hT
    have sm := new_same (o := .tup [u, v]) s2 hT
    exact ⟨_, _, f3, x1, x2, .tup (.inl (.inl upd_same)) (.cons (g2.mono sm) (.cons (g4.mono sm) .nil))⟩
def wZip (wa : AW) : IW := fun τ q e => wa τ (fun ds τ' => ∃ xs ys, (ds = [.tup xs, .tup ys] ∨ ds = [.lst xs, .lst ys] ∨ ds = [.fl xs, .lst ys] ∨ ds = [.lst xs, .fl ys]) ∧ q (zipD xs ys) τ') e
theorem SqT.inj' {F H : Hp} {a : Addr} {xs ys : List V} (h : SqT K F a xs) : True := trivial
theorem di_zip {t : TA} {w : AW} (h : DA K W t w) : DI K W (RZ.iZipA K t) (wZip w) := by
  refine ⟨fun σ H τ F R q e S hw k x => h.run σ H τ F _ _ e S hw (fun vs ds τ' F' H' t' r ⟨xs, ys, ej, hq⟩ => ?_) x⟩
  have lst : ∀ {d1 d2 : D}, ds = [d1, d2] → seqD d1 = some xs → seqD d2 = some ys → (∀ z : List D, d1 ≠ .tup z) → (∀ z : List D, d2 ≠ .tup z) →
      ∃ a b us vs', vs = [.ref a, .ref b] ∧ SqL K F' a us ∧ SqL K F' b vs' ∧ Reps K F' us xs ∧ Reps K F' vs' ys := by
    rintro d1 d2 rfl e1 e2 n1 n2
    obtain ⟨v, v', rfl, r1, r2⟩ := r.two
    have key : ∀ {v : V} {d : D} {zs : List D}, Rep K F' v d → seqD d = some zs → (∀ z : List D, d ≠ .tup z) → ∃ a us, v = .ref a ∧ SqL K F' a us ∧ Reps K F' us zs := by
      intro v d zs r e n
      cases r with
      | tup h r => exact absurd rfl (n _)
      | lst h r => cases e; exact ⟨_, _, rfl, .inl (.inl h), r⟩
      | fl h r => cases e; exact ⟨_, _, rfl, h, r⟩
      | _ => cases e
    obtain ⟨a, us, rfl, h1, h2⟩ := key r1 e1 n1
    obtain ⟨b, ws, rfl, h3, h4⟩ := key r2 e2 n2
    exact ⟨a, b, us, ws, rfl, h1, h3, h2, h4⟩
  have finL : (∃ a b us vs', vs = [.ref a, .ref b] ∧ SqL K F' a us ∧ SqL K F' b vs' ∧ Reps K F' us xs ∧ Reps K F' vs' ys) → RZ.iZipA K (fun _ H Q => Q vs H) σ H' R := by
    rintro ⟨a, b, us, ws, rfl, h1, h3, h2, h4⟩
    refine ⟨a, b, us, ws, rfl, .inl ⟨t'.ok.sub.seq h1, t'.ok.sub.seq h3, k _ _ τ' F' H' t' (it_zip h2 h4 ?_ ?_ ?_) hq⟩⟩
    · exact fun i H x y s e1 e2 => ⟨us, ws, x, y, s.seq h1, s.seq h3, e1, e2⟩
    · exact fun i H s e => ⟨us, ws, s.seq h1, s.seq h3, e⟩
    · rintro i H v H' s ⟨T, x, y, rfl, hT, rfl, e1, e2⟩
      exact ⟨T, x, y, rfl, hT, rfl, e1 _ (s.seq h1), e2 _ (s.seq h3)⟩
  rcases ej with rfl | rfl | rfl | rfl
  · obtain ⟨v, v', rfl, r1, r2⟩ := r.two
    cases r1 with
    | @tup a us _ h1 h2 =>
      cases r2 with
      | @tup b ws _ h3 h4 =>
        refine ⟨a, b, us, ws, rfl, .inr ⟨SqT_mono t'.ok.sub h1, SqT_mono t'.ok.sub h3, k _ _ τ' F' H' t' (it_zip h2 h4 ?_ ?_ ?_) hq⟩⟩
        · exact fun i H x y s e1 e2 => ⟨us, ws, x, y, SqT_mono s h1, SqT_mono s h3, e1, e2⟩
        · exact fun i H s e => ⟨us, ws, SqT_mono s h1, SqT_mono s h3, e⟩
        · rintro i H v H' s ⟨T, x, y, rfl, hT, rfl, e1, e2⟩
          exact ⟨T, x, y, rfl, hT, rfl, e1 _ (SqT_mono s h1), e2 _ (SqT_mono s h3)⟩
  · exact finL (lst rfl rfl rfl (fun z e => by cases e) (fun z e => by cases e))
  · exact finL (lst rfl rfl rfl (fun z e => by cases e) (fun z e => by cases e))
  · exact finL (lst rfl rfl rfl (fun z e => by cases e) (fun z e => by cases e))

/-! ### targets -/
abbrev GW := D → List Cell → (List Cell → Prop) → Prop
abbrev GsW := List D → List Cell → (List Cell → Prop) → Prop
structure DG (K : PySem.W.Frag) (vs : List Nat) (g : TG) (w : GW) : Prop where
  run : ∀ σ H τ F v d Q q, SOk K F H σ τ → Rep K F v d → w d τ q → (∀ σ' τ', SOk K F H σ' τ' → (∀ p, IsOwn τ' p → IsOwn τ p) → (∀ j, j ∉ vs → σ'[j]? = σ[j]?) → σ'.length = σ.length → q τ' → Q σ' H) → g v σ H Q
structure DGs (K : PySem.W.Frag) (vs : List Nat) (g : TGs) (w : GsW) : Prop where
  run : ∀ σ H τ F us ds Q q, SOk K F H σ τ → Reps K F us ds → w ds τ q → (∀ σ' τ', SOk K F H σ' τ' → (∀ p, IsOwn τ' p → IsOwn τ p) → (∀ j, j ∉ vs → σ'[j]? = σ[j]?) → σ'.length = σ.length → q τ' → Q σ' H) → g us σ H Q
theorem SOk.set {F H : Hp} {σ : L2.St} {τ : List Cell} {i : Nat} {v : V} {d : D} (S : SOk K F H σ τ) (r : Rep K F v d) : SOk K F H (σ.set i (some v)) (τ.set i (.dat d)) := by
  refine ⟨S.tabs, S.sub, by rw [List.length_set, List.length_set, S.len], fun j s c h1 h2 => ?_, fun j c h => ?_, S.inj.set fun a z => z.elim⟩
  rotate_left
  · rcases set_get h with ⟨_, rfl, _⟩ | ⟨_, h⟩
    · exact trivial
    · exact S.own j c h
  by_cases e : i = j
  · subst e
    by_cases hl : i < σ.length
    · rw [List.getElem?_set_self hl] at h1
      rw [List.getElem?_set_self (by rw [← S.len]; exact hl)] at h2
      cases h1; cases h2
      exact ⟨v, rfl, r⟩
    · rw [List.getElem?_eq_none (by rw [List.length_set]; exact Nat.le_of_not_lt hl)] at h1
      cases h1
  · rw [List.getElem?_set_ne e] at h1 h2
    exact S.slot j s c h1 h2
def wName (i : Nat) : GW := fun d τ q => q (τ.set i (.dat d))
theorem dg_name (i : Nat) : DG K [i] (gName i) (wName i) := by
  refine ⟨fun σ H τ F v d Q q S r hw k => ?_⟩
  refine k (σ.set i (some v)) (τ.set i (.dat d)) (S.set r) (fun p h => isOwn_set (c := .dat d) (fun a z => z) h) (fun j hj => ?_) (List.length_set ..) hw
  rw [List.getElem?_set_ne (fun z => hj (by rw [z]; exact List.mem_cons_self ..))]
def wNilT : GsW := fun ds τ q => ds = [] ∧ q τ
def wConsT (w : GW) (u : GsW) : GsW := fun ds τ q => ∃ d r, ds = d :: r ∧ w d τ fun τ' => u r τ' q
theorem dgs_nil : DGs K [] gNil wNilT := by
  refine ⟨fun σ H τ F us ds Q q S r ⟨e, hq⟩ k => ?_⟩
  subst e
  cases r
  exact ⟨rfl, k σ τ S (fun _ h => h) (fun _ _ => rfl) rfl hq⟩
theorem dgs_cons {vs ws : List Nat} {g : TG} {u : TGs} {w : GW} {wu : GsW} (h : DG K vs g w) (h' : DGs K ws u wu) : DGs K (vs ++ ws) (gCons g u) (wConsT w wu) := by
  refine ⟨fun σ H τ F us ds Q q S r hw k => ?_⟩
  obtain ⟨d, rs, rfl, hw⟩ := hw
  cases r with
  | @cons v vs' _ _ r1 r2 =>
    refine ⟨v, vs', rfl, ?_⟩
    refine h.run σ H τ F v d _ _ S r1 hw fun σ1 τ1 S1 o1 a1 l1 hw1 => ?_
    refine h'.run σ1 H τ1 F vs' rs _ _ S1 r2 hw1 fun σ2 τ2 S2 o2 a2 l2 hq => ?_
    refine k σ2 τ2 S2 (fun p hp => o1 p (o2 p hp)) (fun j hj => ?_) (l2.trans l1) hq
    rw [List.mem_append, not_or] at hj
    exact (a2 j hj.2).trans (a1 j hj.1)
def wTupT (n : Nat) (w : GsW) : GW := fun d τ q => ∃ ds, d = .tup ds ∧ ds.length = n ∧ w ds τ q
theorem dg_tup {vs : List Nat} {n : Nat} {g : TGs} {w : GsW} (h : DGs K vs g w) : DG K vs (gTup K n g) (wTupT n w) := by
  refine ⟨fun σ H τ F v d Q q S r hw k => ?_⟩
  obtain ⟨ds, rfl, hn, hw⟩ := hw
  cases r with
  | @tup a xs _ hs r =>
    exact ⟨a, xs, rfl, SqT_mono S.sub hs, by rw [r.length]; exact hn, h.run σ H τ F xs ds _ _ S r hw k⟩

/-! ### comprehensions -/
theorem wipe_get : ∀ (vs : List Nat) (σ : L2.St) (j : Nat), (wipe σ vs)[j]? = if j ∈ vs ∧ j < σ.length then some none else σ[j]?
  | [], σ, j => by unfold wipe; simp
  | v :: vs, σ, j => by
    unfold wipe
    by_cases e : v = j
    · subst e
      by_cases hl : v < σ.length
      · rw [List.getElem?_set_self (by rw [wipe_length]; exact hl), if_pos ⟨List.mem_cons_self .., hl⟩]
      · rw [List.getElem?_eq_none (by rw [List.length_set, wipe_length]; exact Nat.le_of_not_lt hl), if_neg (fun z => hl z.2), List.getElem?_eq_none (Nat.le_of_not_lt hl)]
    · rw [List.getElem?_set_ne e, wipe_get vs σ j]
      have : (j ∈ v :: vs) ↔ j ∈ vs := by
        rw [List.mem_cons]
        exact ⟨fun h => h.elim (fun z => absurd z.symm e) id, .inr⟩
      simp only [this]
def wipeD (τ : List Cell) : List Nat → List Cell
  | [] => τ
  | v :: vs => (wipeD τ vs).set v .any
theorem wipeD_length (τ : List Cell) : ∀ vs : List Nat, (wipeD τ vs).length = τ.length
  | [] => rfl
  | v :: vs => by unfold wipeD; rw [List.length_set, wipeD_length τ vs]
theorem wipeD_get : ∀ (vs : List Nat) (τ : List Cell) (j : Nat), (wipeD τ vs)[j]? = if j ∈ vs ∧ j < τ.length then some .any else τ[j]?
  | [], σ, j => by unfold wipeD; simp
  | v :: vs, σ, j => by
    unfold wipeD
    by_cases e : v = j
    · subst e
      by_cases hl : v < σ.length
      · rw [List.getElem?_set_self (by rw [wipeD_length]; exact hl), if_pos ⟨List.mem_cons_self .., hl⟩]
      · rw [List.getElem?_eq_none (by rw [List.length_set, wipeD_length]; exact Nat.le_of_not_lt hl), if_neg (fun z => hl z.2), List.getElem?_eq_none (Nat.le_of_not_lt hl)]
    · rw [List.getElem?_set_ne e, wipeD_get vs σ j]
      have : (j ∈ v :: vs) ↔ j ∈ vs := by
        rw [List.mem_cons]
        exact ⟨fun h => h.elim (fun z => absurd z.symm e) id, .inr⟩
      simp only [this]
theorem wipeD_own {τ : List Cell} {vs : List Nat} {j : Nat} {c : Cell} (h : (wipeD τ vs)[j]? = some c) : c = .any ∨ (τ[j]? = some c ∧ j ∉ vs) := by
  rw [wipeD_get] at h
  split at h
  · cases h; exact .inl rfl
  · rename_i n
    exact .inr ⟨h, fun hj => n ⟨hj, (List.getElem?_eq_some_iff.mp h).1⟩⟩
theorem wipeD_has {τ : List Cell} {vs : List Nat} {j : Nat} {c : Cell} {a : Addr} (h : (wipeD τ vs)[j]? = some c) (f : Has c a) : τ[j]? = some c := by
  rcases wipeD_own h with rfl | h
  · exact f.elim
  · exact h.1
/-- slots are forgotten; the values there may be any -/
theorem SOk.wiped {F H : Hp} {σ σ' : L2.St} {τ : List Cell} {vs : List Nat} (S : SOk K F H σ τ) (hl : σ'.length = σ.length) (h : ∀ j, j ∉ vs → σ'[j]? = σ[j]?) : SOk K F H σ' (wipeD τ vs) := by
  refine ⟨S.tabs, S.sub, by rw [hl, S.len, wipeD_length], fun j s c h1 h2 => ?_, fun j c e => ?_, fun j k c d a e1 e2 f1 f2 => S.inj j k c d a (wipeD_has e1 f1) (wipeD_has e2 f2) f1 f2⟩
  rotate_left
  · rcases wipeD_own e with rfl | e
    · exact trivial
    · exact S.own j c e.1
  rw [wipeD_get] at h2
  split at h2
  · cases h2; exact trivial
  · rename_i n
    have hj : j ∉ vs := fun hj => n ⟨hj, (List.getElem?_eq_some_iff.mp h2).1⟩
    rw [h j hj] at h1
    exact S.slot j s c h1 h2
theorem wipe_ne {σ : L2.St} {vs : List Nat} {j : Nat} (h : j ∉ vs) : (wipe σ vs)[j]? = σ[j]? := by
  rw [wipe_get, if_neg (fun z => h z.1)]
theorem wipe_eq {σ σ2 : L2.St} {vs ws : List Nat} (hs : ∀ j ∈ ws, j ∈ vs) (hl : σ2.length = (wipe σ vs).length) (h : ∀ j, j ∉ ws → σ2[j]? = (wipe σ vs)[j]?) : wipe σ2 vs = wipe σ vs := by
  apply List.ext_getElem?
  intro j
  rw [wipe_get vs σ2, wipe_get vs σ]
  rw [wipe_length] at hl
  rw [hl]
  by_cases hj : j ∈ vs ∧ j < σ.length
  · rw [if_pos hj, if_pos hj]
  · rw [if_neg hj, if_neg hj]
    by_cases hw : j ∈ ws
    · have hn : ¬ j < σ.length := fun z => hj ⟨hs j hw, z⟩
      rw [List.getElem?_eq_none (by omega), List.getElem?_eq_none (by omega)]
    · rw [h j hw, wipe_get, if_neg hj]
/-- a thing that is no data and not own is changed -/
theorem To.touch {F H F1 H1 : Hp} {σ : L2.St} {τ τ1 : List Cell} {p : Addr} {o : HO} (t : To K F H σ τ F1 H1 τ1) (h : Fr H p) (h1 : F1 p = none) (n : ¬ IsOwn τ1 p) (ht : LamX.Tabs TB.T H1 → LamX.Tabs TB.T (upd H1 p o)) : To K F H σ τ F1 (upd H1 p o) τ1 := by
  have nt1 : LamX.Tabs TB.T H1 → LamX.Tabs TB.T (upd H1 p o) := ht
  refine ⟨⟨t.ext.f, t.ext.new, fun a u e z nt => ?_, fun a e => ?_, fun z => ⟨nt1 (t.ext.tabs z).1, (t.ext.tabs z).2⟩⟩, t.grow, ⟨⟨nt1 t.ok.tabs.1, t.ok.tabs.2⟩, fun a u e => ?_, t.ok.len, t.ok.slot, fun i c e => (t.ok.own i c e).move (Same.refl _) fun a f => ?_, t.ok.inj⟩⟩
  · rw [upd_ne (fr_ne e nt h)]
    exact t.ext.keep a u e z nt
  · by_cases q : a = p
    · subst q; exact h
    · exact t.ext.there a fun o' e' => e o' (by rw [upd_ne q]; exact e')
  · rw [upd_ne (ne_of_none e h1)]
    exact t.ok.sub a u e
  · refine ⟨((t.ok.own i c e).has f).1, fun u hu _ => ?_⟩
    rw [upd_ne (fun z => n ⟨i, c, e, by rw [← z]; exact f⟩)]
    exact hu
/-- .. becomes data -/
theorem To.freeze {F H F1 H1 : Hp} {σ : L2.St} {τ τ1 : List Cell} {p : Addr} {o : HO} (t : To K F H σ τ F1 H1 τ1) (h : Fr H p) (h1 : F1 p = none) (h2 : H1 p = some o) (n : ¬ IsOwn τ1 p) (nt : NT o := by intro ps z; cases z) : To K F H σ τ (upd F1 p o) H1 τ1 := by
  have s : Same F1 (upd F1 p o) := same_upd h1
  refine ⟨⟨t.ext.f.trans s, fun a u e => ?_, t.ext.keep, t.ext.there, fun z => ⟨(t.ext.tabs z).1, nt_upd nt (t.ext.tabs z).2⟩⟩, t.grow, ⟨⟨t.ok.tabs.1, nt_upd nt t.ok.tabs.2⟩, fun a u e => ?_, t.ok.len, fun i v c e1 e2 => (t.ok.slot i v c e1 e2).mono s, fun i c e => (t.ok.own i c e).move s fun a f => ⟨?_, fun u hu _ => hu⟩, t.ok.inj⟩⟩
  · by_cases q : a = p
    · subst q; exact .inr (.inl h)
    · rw [upd_ne q] at e; exact t.ext.new a u e
  · by_cases q : a = p
    · subst q; rw [upd_same] at e; rw [h2]; exact e
    · rw [upd_ne q] at e; exact t.ok.sub a u e
  · rw [upd_ne (fun z => n ⟨i, c, e, by rw [← z]; exact f⟩)]
    exact ((t.ok.own i c e).has f).1
theorem To.at {F H F1 H1 : Hp} {σ σ' : L2.St} {τ τ1 τ2 : List Cell} (t : To K F H σ τ F1 H1 τ1) (S : SOk K F1 H1 σ' τ2) (o : ∀ p, IsOwn τ2 p → IsOwn τ1 p) : To K F H σ' τ F1 H1 τ2 := ⟨t.ext, fun p h => t.grow p (o p h), S⟩
theorem To.not_own {F H F1 H1 : Hp} {σ : L2.St} {τ τ1 : List Cell} (t : To K F H σ τ F1 H1 τ1) {p : Addr} {o : HO} (n : ¬ IsOwn τ p) (h : H p = some o) (nt : NT o := by intro ps z; cases z) : ¬ IsOwn τ1 p := fun z => by
  rcases t.grow p z with z | z
  · exact n z
  · exact z _ h nt
theorem To.not_data {F H F1 H1 : Hp} {σ : L2.St} {τ τ1 : List Cell} (t : To K F H σ τ F1 H1 τ1) {p : Addr} {o : HO} (n : ¬ IsOwn τ p) (h : H p = some o) (hf : F p = none) (nt : NT o := by intro ps z; cases z) : F1 p = none := by
  cases q : F1 p with
  | none => rfl
  | some u =>
    rcases t.ext.new p u q with z | z | z
    · rw [hf] at z; cases z
    · exact (z _ h nt).elim
    · exact absurd z n
def noX : Xn → List Cell → Prop := fun _ _ => False
abbrev W0 : WX := fun _ _ _ _ => False
theorem xto0 {F H : Hp} {σ : L2.St} {τ : List Cell} : XTo K W0 F H σ τ noX := fun _ _ _ _ _ _ _ _ h => h
def wYes : TW := fun τ q _ => q true τ
theorem dt_yes : DT K W tYes wYes := ⟨fun σ H τ F Q q e S hq k _ => k true τ F H (.refl S) hq⟩
def wLc (wI : IW) (wg : GW) (wt : TW) (we : EW) (vs : List Nat) : EW := fun τ q e => wI τ (fun ds τ1 => ds.length ≤ 1000 ∧ ∃ inv : Nat → List D → List Cell → Prop, inv 0 [] (wipeD τ1 vs) ∧
  (∀ i d acc τ2, ds[i]? = some d → inv i acc τ2 → acc.length ≤ i → wg d τ2 fun τ3 => wt τ3 (fun b τ4 => (b = true → we τ4 (fun y τ5 => inv (i + 1) (acc ++ [y]) (wipeD τ5 vs)) noX) ∧ (b = false → inv (i + 1) acc (wipeD τ4 vs))) noX) ∧
  ∀ acc τ2, inv ds.length acc (wipeD τ2 vs) → acc.length ≤ ds.length → q (.lst acc) (wipeD τ2 vs)) e
theorem wipeD_idem {τ : List Cell} {vs : List Nat} : wipeD (wipeD τ vs) vs = wipeD τ vs := by
  apply List.ext_getElem?
  intro j
  rw [wipeD_get, wipeD_length, wipeD_get]
  by_cases h : j ∈ vs ∧ j < τ.length
  · rw [if_pos h, if_pos h]
  · rw [if_neg h, if_neg h]
theorem isOwn_wipe {τ : List Cell} {vs : List Nat} {p : Addr} (h : IsOwn (wipeD τ vs) p) : IsOwn τ p := by
  obtain ⟨i, c, e, f⟩ := h
  exact ⟨i, c, wipeD_has e f, f⟩
/-- the comprehension's turns: D the new list -/
theorem lc_turns {J : It} {g : TG} {tt : TT} {te : TE} {vs ws : List Nat} {wg : GW} {wt : TW} {we : EW} {σ : L2.St} {F1 H1 : Hp} {τ1 : List Cell} {ds : List D} {Qd : Hp → Prop} {Da : Addr} {inv : Nat → List D → List Cell → Prop}
    (hg : DG K ws g wg) (ht : DT K W0 tt wt) (he : DE K W0 te we) (hs : ∀ j ∈ ws, j ∈ vs) (S : SOk K F1 H1 σ τ1) (it : ItOk K F1 J ds) (hD : H1 Da = none) (hn : ds.length ≤ 1000) (h0 : inv 0 [] (wipeD τ1 vs))
    (hst : ∀ i d acc τ2, ds[i]? = some d → inv i acc τ2 → acc.length ≤ i → wg d τ2 fun τ3 => wt τ3 (fun b τ4 => (b = true → we τ4 (fun y τ5 => inv (i + 1) (acc ++ [y]) (wipeD τ5 vs)) noX) ∧ (b = false → inv (i + 1) acc (wipeD τ4 vs))) noX)
    (hd : ∀ accV acc F2 H2 τ2, To K F1 H1 (wipe σ vs) τ1 F2 H2 (wipeD τ2 vs) → F2 Da = none → ¬ IsOwn (wipeD τ2 vs) Da → H2 Da = some (.lst accV) → Reps K F2 accV acc → acc.length ≤ ds.length → inv ds.length acc (wipeD τ2 vs) → Qd H2) :
    ∃ W : Nat → Nat → Hp → Prop, (∃ m, W 0 m (upd H1 Da (.lst []))) ∧ ∀ i m H, W i m H → (J.stop i H ∧ Qd H) ∨ (J.go i H ∧ ∃ Nx : Hp → Prop, (∀ H', Nx H' → ∃ m', m' < m ∧ W (i + 1) m' H') ∧ ∀ x H', J.yld i H x H' → g x (wipe σ vs) H' fun σ2 H2 => wipe σ2 vs = wipe σ vs ∧ tt σ2 H2 fun b H3 =>
    if b = true then te σ2 H3 fun y H4 => ∃ acc, H4 Da = some (.lst acc) ∧ acc.length < sizeLine ∧ Nx (upd H4 Da (.lst (acc ++ [y]))) else Nx H3) := by
  let Inv (i : Nat) (H : Hp) : Prop := ∃ accV acc F2 τ2, To K F1 H1 (wipe σ vs) τ1 F2 H (wipeD τ2 vs) ∧ F2 Da = none ∧ ¬ IsOwn (wipeD τ2 vs) Da ∧ H Da = some (.lst accV) ∧ Reps K F2 accV acc ∧ acc.length ≤ i ∧ inv i acc (wipeD τ2 vs)
  have S1 : SOk K F1 H1 (wipe σ vs) (wipeD τ1 vs) := S.wiped (wipe_length σ vs) fun j hj => wipe_ne hj
  have F1D : F1 Da = none := by
    cases q : F1 Da with
    | none => rfl
    | some u => rw [S.sub _ _ q] at hD; cases hD
  have no1 : ¬ IsOwn τ1 Da := fun z => by
    obtain ⟨_, us, e2, _⟩ := S.own.has z
    rw [hD] at e2; cases e2
  have start : Inv 0 (upd H1 Da (.lst [])) := by
    refine ⟨[], [], F1, τ1, To.touch ⟨.refl _ _ _, fun p h => .inl (isOwn_wipe h), S1⟩ (fr_none hD) F1D (fun z => no1 (isOwn_wipe z)) (tabs_new hD), F1D, fun z => no1 (isOwn_wipe z), upd_same, .nil, Nat.le_refl _, h0⟩
  refine ⟨fun i m H => m = ds.length - i ∧ i ≤ ds.length ∧ Inv i H, ⟨_, rfl, Nat.zero_le _, start⟩, ?_⟩
  rintro i m H ⟨rfl, hi, accV, acc, F2, τ2, T, fD, nD, hH, ra, la, hinv⟩
  have s12 : Same F1 F2 := T.ext.f
  by_cases hlt : i < ds.length
  · refine .inr ⟨it.go i F2 H s12 T.ok.sub hlt, Inv (i + 1), fun H' p' => ⟨ds.length - (i + 1), by omega, rfl, hlt, p'⟩, fun x H' y => ?_⟩
    obtain ⟨d, F3, ed, x3, s3, r3⟩ := it.yld i F2 H x H' s12 T.ok.sub hlt y
    have T3 : To K F2 H (wipe σ vs) (wipeD τ2 vs) F3 H' (wipeD τ2 vs) := .small T.ok x3 s3
    refine hg.run _ H' _ F3 x d _ _ T3.ok r3 (hst i d acc _ ed hinv la) fun σ4 τ4 S4 o4 a4 l4 h4 => ?_
    have ew : wipe σ4 vs = wipe σ vs := wipe_eq hs (by rw [l4]) (fun j hj => a4 j hj)
    refine ⟨ew, ?_⟩
    have T4 : To K F2 H σ4 (wipeD τ2 vs) F3 H' τ4 := T3.at S4 o4
    refine ht.run σ4 H' τ4 F3 _ _ noX S4 h4 (fun b τ5 F5 H5 t5 ⟨h5, h6⟩ => ?_) xto0
    have T5 := T4.trans t5
    have back : ∀ {F6 H6 : Hp} {τ6 : List Cell}, To K F2 H σ4 (wipeD τ2 vs) F6 H6 τ6 → To K F1 H1 (wipe σ vs) τ1 F6 H6 (wipeD τ6 vs) := fun {F6 H6 τ6} t =>
      (T.trans t).at (t.ok.wiped (by rw [← ew, wipe_length]) fun j hj => by rw [← ew]; exact wipe_ne hj) fun p h => isOwn_wipe h
    cases b with
    | false =>
      refine iteF ?_
      have n5 := T5.not_own nD hH
      refine ⟨accV, acc, F5, τ5, back T5, T5.not_data nD hH fD, fun z => n5 (isOwn_wipe z), T5.ext.keep Da _ hH nD nt_lst, ra.mono T5.ext.f, Nat.le_succ_of_le la, h6 rfl⟩
    | true =>
      refine iteT ?_
      refine he.run σ4 H5 τ5 F5 _ _ noX t5.ok (h5 rfl) (fun yv yd τ6 F6 H6 t6 r6 h7 => ?_) xto0
      have T6 := T5.trans t6
      have n6 := T6.not_own nD hH
      refine ⟨accV, T6.ext.keep Da _ hH nD nt_lst, by rw [ra.length]; exact Nat.lt_of_le_of_lt la (small1000 (by omega)), ?_⟩
      have nw : ¬ IsOwn (wipeD τ6 vs) Da := fun z => n6 (isOwn_wipe z)
      refine ⟨accV ++ [yv], acc ++ [yd], F6, τ6, (back T6).touch (fr_none hD) (T6.not_data nD hH fD) nw (tabs_lst (T6.ext.keep Da _ hH nD nt_lst)), T6.not_data nD hH fD, nw, upd_same, (ra.mono T6.ext.f).append (.cons r6 .nil), ?_, h7⟩
      rw [List.length_append, List.length_singleton]
      omega
  · have e : i = ds.length := by omega
    subst e
    exact .inl ⟨it.stop F2 H s12 T.ok.sub, hd accV acc F2 H τ2 T fD nD hH ra la hinv⟩
theorem de_lc {wi : TI} {g : TG} {tt : TT} {te : TE} {vs ws : List Nat} {wI : IW} {wg : GW} {wt : TW} {we : EW} (hi : DI K W wi wI) (hg : DG K ws g wg) (ht : DT K W0 tt wt) (he : DE K W0 te we) (hs : ∀ j ∈ ws, j ∈ vs) :
    DE K W (tLc wi g tt te vs) (wLc wI wg wt we vs) := by
  refine ⟨fun σ H τ F Q q e S hw k x => hi.run σ H τ F _ _ e S hw (fun J ds τ1 F1 H1 t1 it ⟨hn, inv, h0, hst, hd⟩ Da hD => ?_) x⟩
  refine lc_turns hg ht he hs t1.ok it hD hn h0 hst fun accV acc F2 H2 τ2 T fD nD hH ra la hinv => ?_
  refine k (.ref Da) (.lst acc) (wipeD τ2 vs) (upd F2 Da (.lst accV)) H2 ?_ (.lst upd_same (ra.mono (same_upd fD))) (hd acc τ2 hinv la)
  have T2 := T.freeze (fr_none hD) fD hH nD
  refine t1.trans (To.at (τ1 := wipeD τ2 vs) T2 ?_ fun p h => h)
  rw [← wipeD_idem]
  exact T2.ok.wiped (by rw [wipe_length]) fun j hj => (wipe_ne hj).symm
end
end L3

/-! ## statements -/
namespace L3
open PySem PySem.Spec PyProof.Rows L2
variable [TB : TabT]
section
variable {K : PySem.W.Frag} {W : WX}
structure Ret (K : PySem.W.Frag) (F H : Hp) (τ : List Cell) (F' H' : Hp) (τ' : List Cell) : Prop where
  ext : Ext τ F H F' H'
  grow : Grow τ H τ'
  sub : Same F' H'
  own : OwnOk K F' H' τ'
  inj : InjOk τ'
theorem To.ret {F H F' H' : Hp} {σ : L2.St} {τ τ' : List Cell} (t : To K F H σ τ F' H' τ') : Ret K F H τ F' H' τ' := ⟨t.ext, t.grow, t.ok.sub, t.ok.own, t.ok.inj⟩
theorem Ret.pre {F H F1 H1 F2 H2 : Hp} {σ : L2.St} {τ τ1 τ2 : List Cell} (a : To K F H σ τ F1 H1 τ1) (b : Ret K F1 H1 τ1 F2 H2 τ2) : Ret K F H τ F2 H2 τ2 :=
  ⟨a.ext.trans a.grow b.ext, .trans a.ext a.grow b.grow, b.sub, b.own, b.inj⟩
theorem To.back {F H F1 H1 : Hp} {σ : L2.St} {τ τ1 : List Cell} (t : To K F H σ τ F1 H1 τ1) {p : Addr} (h : Fr H1 p) : Fr H p := t.ext.there p h
structure Out (K : PySem.W.Frag) (W : WX) (F H : Hp) (τ : List Cell) (E : EndsD) (Dn : Ends) : Prop where
  nx : ∀ σ' τ' F' H', To K F H σ' τ F' H' τ' → E.nx τ' → Dn.nx σ' H'
  bk : ∀ σ' τ' F' H', To K F H σ' τ F' H' τ' → E.bk τ' → Dn.bk σ' H'
  ct : ∀ σ' τ' F' H', To K F H σ' τ F' H' τ' → E.ct τ' → Dn.ct σ' H'
  rt : ∀ v d τ' F' H', Ret K F H τ F' H' τ' → Rep K F' v d → E.rt d τ' → Dn.rt v H'
  ex : ∀ σ', XTo K W F H σ' τ E.ex
  rf : ∀ p k τ' F' H', Ret K F H τ F' H' τ' → CellOk K F' H' (.own p k) → (∀ a, Has (.own p k) a → Fr H a ∧ ¬ IsOwn τ' a) → E.rf k τ' → Dn.rt (.ref p) H'
theorem Out.of {F H F1 H1 : Hp} {σ : L2.St} {τ τ1 : List Cell} {E : EndsD} {Dn : Ends} (o : Out K W F H τ E Dn) (t : To K F H σ τ F1 H1 τ1) : Out K W F1 H1 τ1 E Dn :=
  ⟨fun σ' τ' F' H' u q => o.nx σ' τ' F' H' (t.trans u) q, fun σ' τ' F' H' u q => o.bk σ' τ' F' H' (t.trans u) q, fun σ' τ' F' H' u q => o.ct σ' τ' F' H' (t.trans u) q,
    fun v d τ' F' H' u r q => o.rt v d τ' F' H' (u.pre t) r q, fun σ' x cls dx τ' F' H' u r q => o.ex σ' x cls dx τ' F' H' (t.trans u) r q,
    fun p k τ' F' H' u c n q => o.rf p k τ' F' H' (u.pre t) c (fun a f => ⟨t.back (n a f).1, (n a f).2⟩) q⟩
structure DS (K : PySem.W.Frag) (W : WX) (t : TS) (w : SW) : Prop where
  run : ∀ σ H τ F Dn E, SOk K F H σ τ → w E τ → Out K W F H τ E Dn → t Dn σ H
theorem Out.xto {F H : Hp} {σ : L2.St} {τ : List Cell} {E : EndsD} {Dn : Ends} (o : Out K W F H τ E Dn) : XTo K W F H σ τ E.ex := o.ex σ

def wNext : SW := fun E τ => E.nx τ
theorem ds_nil : DS K W tNext wNext := ⟨fun σ H τ F Dn E S h o => o.nx σ τ F H (.refl S) h⟩
def wSq (w u : SW) : SW := fun E τ => w { E with nx := u E } τ
theorem ds_seq {t u : TS} {w v : SW} (h : DS K W t w) (g : DS K W u v) : DS K W (tSeq t u) (wSq w v) := by
  refine ⟨fun σ H τ F Dn E S hw o => h.run σ H τ F { Dn with nx := u Dn } { E with nx := v E } S hw ?_⟩
  exact ⟨fun σ' τ' F' H' t' q => g.run σ' H' τ' F' Dn E t'.ok q (o.of t'), o.bk, o.ct, o.rt, o.ex, o.rf⟩
def wBreak : SW := fun E τ => E.bk τ
theorem ds_break : DS K W tBreak wBreak := ⟨fun σ H τ F Dn E S h o => o.bk σ τ F H (.refl S) h⟩
def wCont : SW := fun E τ => E.ct τ
theorem ds_cont : DS K W tCont wCont := ⟨fun σ H τ F Dn E S h o => o.ct σ τ F H (.refl S) h⟩
def wDrop (we : EW) : SW := fun E τ => we τ (fun _ τ' => E.nx τ') E.ex
theorem ds_drop {t : TE} {w : EW} (h : DE K W t w) : DS K W (tDrop t) (wDrop w) :=
  ⟨fun σ H τ F Dn E S hw o => h.run σ H τ F _ _ E.ex S hw (fun v d τ' F' H' t' r q => o.nx σ τ' F' H' t' q) o.xto⟩
def wRet (we : EW) : SW := fun E τ => we τ E.rt E.ex
theorem ds_ret {t : TE} {w : EW} (h : DE K W t w) : DS K W (tRet t) (wRet w) :=
  ⟨fun σ H τ F Dn E S hw o => h.run σ H τ F _ _ E.ex S hw (fun v d τ' F' H' t' r q => o.rt v d τ' F' H' t'.ret r q) o.xto⟩
def wRetN : SW := fun E τ => E.rt .non τ
theorem ds_retN : DS K W tRetN wRetN := ⟨fun σ H τ F Dn E S h o => o.rt .non .non τ F H (To.refl S).ret .non h⟩
def wIfS (wc : TW) (w u : SW) : SW := fun E τ => wc τ (fun b τ' => (b = true → w E τ') ∧ (b = false → u E τ')) E.ex
theorem ds_if {c : TT} {t u : TS} {wc : TW} {w v : SW} (h : DT K W c wc) (g : DS K W t w) (l : DS K W u v) : DS K W (tIfS c t u) (wIfS wc w v) := by
  refine ⟨fun σ H τ F Dn E S hw o => h.run σ H τ F _ _ E.ex S hw (fun b τ' F' H' t' ⟨h1, h2⟩ => ?_) o.xto⟩
  cases b with
  | true => exact iteT (g.run σ H' τ' F' Dn E t'.ok (h1 rfl) (o.of t'))
  | false => exact iteF (l.run σ H' τ' F' Dn E t'.ok (h2 rfl) (o.of t'))
def wAsg (we : EW) (wg : GW) : SW := fun E τ => we τ (fun d τ' => wg d τ' E.nx) E.ex
theorem ds_asg {t : TE} {w : EW} {vs : List Nat} {g : TG} {wg : GW} (h : DE K W t w) (l : DG K vs g wg) : DS K W (tAsg t g) (wAsg w wg) := by
  refine ⟨fun σ H τ F Dn E S hw o => h.run σ H τ F _ _ E.ex S hw (fun v d τ' F' H' t' r hq => ?_) o.xto⟩
  refine l.run σ H' τ' F' v d _ _ t'.ok r hq fun σ2 τ2 S2 o2 _ _ q => ?_
  exact o.nx σ2 τ2 F' H' (t'.at S2 o2) q
/-- a, b = e1, e2 -/
def wPar (i j : Nat) (wa : AW) : SW := fun E τ => wa τ (fun ds τ' => ∃ d d', ds = [d, d'] ∧ E.nx ((τ'.set i (.dat d)).set j (.dat d'))) E.ex
theorem ds_par {i j : Nat} {t : TA} {w : AW} (h : DA K W t w) : DS K W (tPar i j t) (wPar i j w) := by
  refine ⟨fun σ H τ F Dn E S hw o => h.run σ H τ F _ _ E.ex S hw (fun vs ds τ' F' H' t' r ⟨d, d', e, hq⟩ => ?_) o.xto⟩
  subst e
  obtain ⟨v, v', rfl, r1, r2⟩ := r.two
  refine ⟨v, v', rfl, ?_⟩
  refine o.nx _ _ F' H' (t'.at ((t'.ok.set r1).set r2) fun p h => ?_) hq
  exact isOwn_set (c := .dat d) (fun a z => z) (isOwn_set (c := .dat d') (fun a z => z) h)

/-! ### lists of the frame's own -/
theorem SOk.setCell {F H : Hp} {σ : L2.St} {τ : List Cell} {i : Nat} {v : V} {c : Cell} (S : SOk K F H σ τ) (co : CellOk K F H c) (sl : SlotOk K F (some v) c) (n : ∀ a, Has c a → ¬ IsOwn τ a) :
    SOk K F H (σ.set i (some v)) (τ.set i c) := by
  refine ⟨S.tabs, S.sub, by rw [List.length_set, List.length_set, S.len], fun j s c' h1 h2 => ?_, fun j d h => ?_, S.inj.set fun a z j d _ e f => n a z ⟨j, d, e, f⟩⟩
  · by_cases e : i = j
    · subst e
      by_cases hl : i < σ.length
      · rw [List.getElem?_set_self hl] at h1
        rw [List.getElem?_set_self (by rw [← S.len]; exact hl)] at h2
        cases h1; cases h2
        exact sl
      · rw [List.getElem?_eq_none (by rw [List.length_set]; exact Nat.le_of_not_lt hl)] at h1
        cases h1
    · rw [List.getElem?_set_ne e] at h1 h2
      exact S.slot j s c' h1 h2
  · rcases set_get h with ⟨_, rfl, _⟩ | ⟨_, h⟩
    · exact co
    · exact S.own j d h
theorem SOk.setOwn {F H : Hp} {σ : L2.St} {τ : List Cell} {i : Nat} {p : Addr} {ds : Cont} (S : SOk K F H σ τ) (co : CellOk K F H (.own p ds)) (n : ∀ a, Has (.own p ds) a → ¬ IsOwn τ a) :
    SOk K F H (σ.set i (some (.ref p))) (τ.set i (.own p ds)) := S.setCell co rfl n
theorem flat_has {k : Cont} (fl : Flat k) {p a : Addr} (h : Has (.own p k) a) : a = p := h.elim id fun z => absurd z fl.no
theorem new_not_own {F H : Hp} {σ : L2.St} {τ : List Cell} {p : Addr} (S : SOk K F H σ τ) (h : H p = none) : ¬ IsOwn τ p := fun z => by
  obtain ⟨_, us, e2, _⟩ := S.own.has z
  rw [h] at e2; cases e2
theorem new_not_data {F H : Hp} {σ : L2.St} {τ : List Cell} {p : Addr} (S : SOk K F H σ τ) (h : H p = none) : F p = none := by
  cases q : F p with
  | none => rfl
  | some u => rw [S.sub _ _ q] at h; cases h
/-- x = [..], x a list of the frame's own -/
def wLstOwn (i : Nat) (wa : AW) : SW := fun E τ => wa τ (fun ds τ' => ds.length ≤ 1000 ∧ ∀ p, E.nx (τ'.set i (.own p (.lst ds)))) E.ex
theorem grow_set {F H F' H' : Hp} {σ : L2.St} {τ τ' : List Cell} {i : Nat} {c : Cell} (t : To K F H σ τ F' H' τ') (n : ∀ a, Has c a → Fr H a) : Grow τ H (τ'.set i c) := fun q ⟨j, d, h, f⟩ => by
  rcases set_get h with ⟨_, rfl, _⟩ | ⟨_, h⟩
  · exact .inr (n q f)
  · exact t.grow q ⟨j, d, h, f⟩
theorem to_own {F H F' H' : Hp} {σ : L2.St} {τ τ' : List Cell} {i : Nat} {p : Addr} {ds : Cont} {vs : HO} (t : To K F H σ τ F' H' τ') (hp : H' p = none) (r : CRep K F' vs ds) (fl : Flat ds := by trivial) :
    To K F H (σ.set i (some (.ref p))) τ F' (upd H' p vs) (τ'.set i (.own p ds)) := by
  have nO := new_not_own t.ok hp
  have nF := new_not_data t.ok hp
  have hp0 : Fr H p := t.ext.there p (fr_none hp)
  have T2 := t.touch (o := vs) hp0 nF nO (tabs_new hp)
  exact ⟨T2.ext, grow_set T2 fun a f => by rw [flat_has fl f]; exact hp0, T2.ok.setOwn (.flat fl nF upd_same r) fun a f => by rw [flat_has fl f]; exact nO⟩
theorem ds_lstOwn {i : Nat} {t : TA} {w : AW} (h : DA K W t w) : DS K W (tAsg (tLst t) (gName i)) (wLstOwn i w) := by
  refine ⟨fun σ H τ F Dn E S hw o => h.run σ H τ F _ _ E.ex S hw (fun vs ds τ' F' H' t' r ⟨hl, hq⟩ => ?_) o.xto⟩
  refine ⟨by rw [r.length]; exact Nat.le_of_lt (small1000 hl), fun p hp => ?_⟩
  exact o.nx _ _ F' _ (to_own t' hp (.lst r)) (hq p)
/-- what stands in an own list is changed -/
theorem to_change {F H F' H' : Hp} {σ : L2.St} {τ τ' : List Cell} {i : Nat} {p : Addr} {ds es : Cont} {vs : HO} (t : To K F H σ τ F' H' τ') (h : τ'[i]? = some (.own p ds)) (r : CRep K F' vs es) (fl : Flat ds := by trivial) (fl' : Flat es := by trivial) :
    To K F H σ τ F' (upd H' p vs) (τ'.set i (.own p es)) := by
  have hi : i < τ'.length := (List.getElem?_eq_some_iff.mp h).1
  have own1 : IsOwn τ' p := isOwn_at h
  obtain ⟨hF, us, hH, hR, _⟩ := t.ok.own i _ h
  have nt1 : LamX.Tabs TB.T H' → LamX.Tabs TB.T (upd H' p vs) := tabs_crep hH hR
  refine ⟨⟨t.ext.f, t.ext.new, fun a u e z nt => ?_, fun a e => ?_, fun z => ⟨nt1 (t.ext.tabs z).1, (t.ext.tabs z).2⟩⟩, fun q ⟨j, c, e, f⟩ => ?_, ⟨⟨nt1 t.ok.tabs.1, t.ok.tabs.2⟩, fun a u e => ?_, by rw [List.length_set]; exact t.ok.len, fun j s c h1 h2 => ?_, fun j c e => ?_, t.ok.inj.set fun a f j d nj e f2 => ?_⟩⟩
  · by_cases q : a = p
    · subst q
      rcases t.grow a own1 with z' | z'
      · exact absurd z' z
      · exact (z' _ e nt).elim
    · rw [upd_ne q]; exact t.ext.keep a u e z nt
  · by_cases q : a = p
    · subst q; exact (e _ upd_same r.nt).elim
    · exact t.ext.there a fun o' e' => e o' (by rw [upd_ne q]; exact e')
  · rcases set_get e with ⟨_, rfl, _⟩ | ⟨_, e⟩
    · rw [flat_has fl' f]; exact t.grow _ own1
    · exact t.grow q ⟨j, c, e, f⟩
  · rw [upd_ne (fun z => by rw [z, hF] at e; cases e)]
    exact t.ok.sub a u e
  · rcases set_get h2 with ⟨rfl, rfl, _⟩ | ⟨_, h2⟩
    · exact (show s = some (.ref p) from t.ok.slot j s _ h1 h)
    · exact t.ok.slot j s c h1 h2
  · rcases set_get e with ⟨rfl, rfl, _⟩ | ⟨n, e⟩
    · exact .flat fl' hF upd_same r
    · refine (t.ok.own j c e).move (Same.refl _) fun a f => ⟨((t.ok.own j c e).has f).1, fun u hu _ => ?_⟩
      rw [upd_ne (fun z => n (t.ok.inj j i c _ a e h f (.inl z)))]
      exact hu
  · have f := flat_has fl' f
    subst f
    exact nj (t.ok.inj j i d _ a e h f2 (.inl rfl))
theorem own_at {F H : Hp} {σ : L2.St} {τ : List Cell} {i : Nat} {p : Addr} {ds : Cont} (S : SOk K F H σ τ) (h : τ[i]? = some (.own p ds)) : σ[i]? = some (some (.ref p)) ∧ F p = none ∧ ∃ vs, H p = some vs ∧ CRep K F vs ds := by
  have hi : i < σ.length := by rw [S.len]; exact (List.getElem?_eq_some_iff.mp h).1
  have e : σ[i] = some (.ref p) := S.slot i σ[i] _ (List.getElem?_eq_getElem hi) h
  obtain ⟨h1, vs, h2, h3, _⟩ := S.own i _ h
  exact ⟨by rw [List.getElem?_eq_getElem hi, e], h1, vs, h2, h3⟩
theorem own_lst {F H : Hp} {σ : L2.St} {τ : List Cell} {i : Nat} {p : Addr} {ds : List D} (S : SOk K F H σ τ) (h : τ[i]? = some (.own p (.lst ds))) : σ[i]? = some (some (.ref p)) ∧ F p = none ∧ ∃ vs, H p = some (.lst vs) ∧ Reps K F vs ds := by
  obtain ⟨h1, h2, o, h3, h4⟩ := own_at S h
  cases h4 with
  | @lst vs _ r => exact ⟨h1, h2, vs, h3, r⟩
/-- x.append(e), x an own list: as a statement -/
def wAppend (i : Nat) (wa : AW) : SW := fun E τ => (∃ p es, τ[i]? = some (.own p (.lst es))) ∧ wa τ (fun ds τ' => ∃ p es d, ds = [d] ∧ τ'[i]? = some (.own p (.lst es)) ∧ es.length < 1000 ∧ E.nx (τ'.set i (.own p (.lst (es ++ [d]))))) E.ex
theorem ds_append {i : Nat} {t : TA} {w : AW} (h : DA K W t w) : DS K W (tDrop (tBM K "list" rAppend (tVar i) t)) (wAppend i w) := by
  refine ⟨fun σ H τ F Dn E S ⟨⟨p, es, e0⟩, hw⟩ o => ?_⟩
  obtain ⟨s0, _, vs0, h0, _⟩ := own_lst S e0
  refine ⟨.ref p, s0, .inl ⟨rfl, vs0, .inl (.inl h0)⟩, ?_⟩
  refine h.run σ H τ F _ _ E.ex S hw (fun vs ds τ' F' H' t' r ⟨p', es', d, ed, e1, hl, hq⟩ => ?_) o.xto
  subst ed
  obtain ⟨v, rfl, r1⟩ := r.one
  obtain ⟨s1, _, vs1, h1, r2⟩ := own_lst t'.ok e1
  rw [s0] at s1
  cases s1
  refine ⟨p, vs1, v, rfl, rfl, h1, by rw [r2.length]; exact small1000 (Nat.le_of_lt hl), ?_⟩
  exact o.nx σ _ F' _ (to_change t' e1 (.lst (r2.append (.cons r1 .nil)))) hq
/-- x[k] = e, x an own list -/
def wSetOwn (i : Nat) (we wk : EW) : SW := fun E τ => we τ (fun d τ1 => (∃ p es, τ1[i]? = some (.own p (.lst es))) ∧ wk τ1 (fun k τ2 => ∃ p es n j, τ2[i]? = some (.own p (.lst es)) ∧ k = .int n ∧ ixN es.length n = some j ∧ E.nx (τ2.set i (.own p (.lst (es.set j d))))) E.ex) E.ex
theorem ds_setOwn {i : Nat} {t u : TE} {w v : EW} (h : DE K W t w) (g : DE K W u v) : DS K W (tAsg t (gSub (tVar i) u rSetL)) (wSetOwn i w v) := by
  refine ⟨fun σ H τ F Dn E S hw o => h.run σ H τ F _ _ E.ex S hw (fun x d τ1 F1 H1 t1 r1 ⟨⟨p, es, e0⟩, h1⟩ => ?_) o.xto⟩
  obtain ⟨s0, _, vs0, h0, _⟩ := own_lst t1.ok e0
  refine ⟨.ref p, s0, ?_⟩
  refine g.run σ H1 τ1 F1 _ _ E.ex t1.ok h1 (fun y k τ2 F2 H2 t2 r2 ⟨p', es', n, j, e1, ek, ej, hq⟩ => ?_) (o.of t1).xto
  subst ek
  obtain ⟨s1, _, vs1, h2, r3⟩ := own_lst t2.ok e1
  rw [s0] at s1
  cases s1
  refine ⟨p, vs1, n, j, rfl, r2.int_of, h2, by rw [r3.length]; exact ej, ?_⟩
  exact o.nx σ _ F2 _ (to_change (t1.trans t2) e1 (.lst (Reps.set (r1.mono t2.ext.f) j r3))) hq
/-- x[k] of an own list -/
def wIxOwn (i : Nat) (wk : EW) : EW := fun τ q e => (∃ p es, τ[i]? = some (.own p (.lst es))) ∧ wk τ (fun k τ1 => ∃ p es n d, τ1[i]? = some (.own p (.lst es)) ∧ k = .int n ∧ atI es n = some d ∧ q d τ1) e
theorem de_ixOwn {i : Nat} {t : TE} {w : EW} (h : DE K W t w) : DE K W (tOp (rIx K) (tVar i) t) (wIxOwn i w) := by
  refine ⟨fun σ H τ F Q q e S ⟨⟨p, es, e0⟩, hw⟩ k x => ?_⟩
  obtain ⟨s0, _, vs0, h0, _⟩ := own_lst S e0
  refine ⟨.ref p, s0, ?_⟩
  refine h.run σ H τ F _ _ e S hw (fun y kd τ1 F1 H1 t1 r1 ⟨p', es', n, d, e1, ek, ea, hq⟩ => ?_) x
  subst ek
  obtain ⟨s1, _, vs1, h1, r2⟩ := own_lst t1.ok e1
  rw [s0] at s1
  cases s1
  obtain ⟨v, ev, rv⟩ := atI_rep r2 ea
  exact .inl ⟨p, vs1, n, v, rfl, r1.int_of, .inl (.inl h1), ev, k v d τ1 F1 H1 t1 rv hq⟩
/-- a built-in of an own list alone that keeps nothing of it: len, tuple, list .. -/
def OpPeek (K : PySem.W.Frag) (r : List V → Hp → VK → Prop) (g : List D → (D → Prop) → Prop) : Prop :=
  ∀ F H p vs ds (q : D → Prop) Q, Same F H → H p = some (.lst vs) → Reps K F vs ds → g ds q → (∀ v d F' H', Ext [] F H F' H' → Same F' H' → Rep K F' v d → q d → Q v H') → r [.ref p] H Q
def wPeek (i : Nat) (g : List D → (D → Prop) → Prop) : EW := fun τ q _ => ∃ p es, τ[i]? = some (.own p (.lst es)) ∧ g es fun d => q d τ
theorem de_peek {i : Nat} {r : List V → Hp → VK → Prop} {g : List D → (D → Prop) → Prop} (o : OpPeek K r g) : DE K W (tCB r (tCons (tVar i) tNil)) (wPeek i g) := by
  refine ⟨fun σ H τ F Q q e S ⟨p, es, e0, hg⟩ k x => ?_⟩
  obtain ⟨s0, _, vs0, h0, r0⟩ := own_lst S e0
  refine ⟨.ref p, s0, ?_⟩
  exact o F H p vs0 es _ Q S.sub h0 r0 hg fun v d F' H' x1 s1 rv hq => k v d τ F' H' (.small S x1 s1) rv hq
theorem p_len : OpPeek K (rLenS K) (fun es q => q (.int es.length)) := fun F H p vs ds q Q s h r hq k =>
  ⟨p, vs, rfl, .inl (.inl (.inl h)), k _ (.int ds.length) F H (.refl _ _ _) s (by rw [r.length]; exact .int _) hq⟩
theorem p_tupleOf : OpPeek K (rTupleOf K) (fun es q => q (.tup es)) := fun F H p vs ds q Q s h r hq k => by
  refine ⟨p, vs, rfl, .inl ⟨.inl (.inl h), fun l hl => ?_⟩⟩
  obtain ⟨x1, x2⟩ := new_ext (o := .tup vs) s hl
  exact k _ (.tup ds) _ _ x1 x2 (.tup (.inl (.inl upd_same)) (r.mono (new_same s hl))) hq
theorem p_listOf : OpPeek K (rListOf K) (fun es q => q (.lst es)) := fun F H p vs ds q Q s h r hq k => by
  refine ⟨p, vs, rfl, .inl (.inl (.inl h)), fun l hl => ?_⟩
  obtain ⟨x1, x2⟩ := new_ext (o := .lst vs) s hl
  exact k _ (.lst ds) _ _ x1 x2 (.lst upd_same (r.mono (new_same s hl))) hq
/-- return x, x an own list: it becomes data -/
def wRetOwn (i : Nat) : SW := fun E τ => ∃ p es, τ[i]? = some (.own p (.lst es)) ∧ E.rt (.lst es) (τ.set i .any)
theorem ds_retOwn {i : Nat} : DS K W (tRet (tVar i)) (wRetOwn i) := by
  refine ⟨fun σ H τ F Dn E S ⟨p, es, e0, hq⟩ o => ?_⟩
  obtain ⟨s0, f0, vs0, h0, r0⟩ := own_lst S e0
  refine ⟨.ref p, s0, ?_⟩
  have s : Same F (upd F p (.lst vs0)) := same_upd f0
  refine o.rt (.ref p) (.lst es) (τ.set i .any) (upd F p (.lst vs0)) H ⟨⟨s, fun a u e => ?_, fun _ _ e _ _ => e, fun _ e => e, fun g => ⟨g.1, nt_upd nt_lst g.2⟩⟩, fun q h => .inl (isOwn_set (c := .any) (fun a z => z) h), fun a u e => ?_, fun j c e => ?_, S.inj.set fun a z => z.elim⟩ (.lst upd_same (r0.mono s)) hq
  · by_cases q : a = p
    · subst q; exact .inr (.inr (isOwn_at e0))
    · rw [upd_ne q] at e; exact .inl e
  · by_cases q : a = p
    · subst q; rw [upd_same] at e; rw [h0]; exact e
    · rw [upd_ne q] at e; exact S.sub a u e
  · rcases set_get e with ⟨_, rfl, _⟩ | ⟨n, e⟩
    · exact trivial
    · refine (S.own j c e).move s fun a f => ⟨?_, fun u hu _ => hu⟩
      rw [upd_ne (fun z => n (S.inj j i c _ a e e0 f (.inl z)))]
      exact ((S.own j c e).has f).1

/-- in a def that hands back a list of its own -/
def wRetFr (wa : AW) : SW := fun E τ => wa τ (fun ds τ' => ds.length ≤ 1000 ∧ E.rf (.lst ds) τ') E.ex
theorem ds_retFr {t : TA} {w : AW} (h : DA K W t w) : DS K W (tRet (tLst t)) (wRetFr w) := by
  refine ⟨fun σ H τ F Dn E S hw o => h.run σ H τ F _ _ E.ex S hw (fun vs ds τ' F' H' t' r ⟨hl, hq⟩ => ?_) o.xto⟩
  refine ⟨by rw [r.length]; exact Nat.le_of_lt (small1000 hl), fun p hp => ?_⟩
  have hp0 := t'.back (fr_none hp)
  have nF := new_not_data t'.ok hp
  have nO := new_not_own t'.ok hp
  exact o.rf p (.lst ds) τ' F' _ (t'.touch hp0 nF nO (tabs_new hp)).ret (.flat trivial nF upd_same (.lst r)) (fun a f => by rw [flat_has (k := .lst ds) trivial f]; exact ⟨hp0, nO⟩) hq
def wRetOwnFr (i : Nat) : SW := fun E τ => ∃ p es, τ[i]? = some (.own p (.lst es)) ∧ E.rf (.lst es) (τ.set i .any)

/-! ### for -/
def wFor (wI : IW) (wg : GW) (wb : SW) : SW := fun E τ => wI τ (fun ds τ1 => ∃ inv : Nat → List Cell → Prop, inv 0 τ1 ∧
  (∀ i d τ2, ds[i]? = some d → inv i τ2 → wg d τ2 fun τ3 => wb { E with nx := inv (i + 1), ct := inv (i + 1), bk := E.nx } τ3) ∧ ∀ τ2, inv ds.length τ2 → E.nx τ2) E.ex
theorem ds_for {wi : TI} {g : TG} {tb : TS} {vs : List Nat} {wI : IW} {wg : GW} {wb : SW} (hi : DI K W wi wI) (hg : DG K vs g wg) (hb : DS K W tb wb) : DS K W (tFor wi g tb) (wFor wI wg wb) := by
  refine ⟨fun σ H τ F Dn E S hw o => hi.run σ H τ F _ _ E.ex S hw (fun J ds τ1 F1 H1 t1 it ⟨inv, h0, hst, hd⟩ => ?_) o.xto⟩
  have o1 := o.of t1
  refine ⟨fun i m σ2 H2 => m = ds.length - i ∧ i ≤ ds.length ∧ ∃ τ2 F2, To K F1 H1 σ2 τ1 F2 H2 τ2 ∧ inv i τ2, ⟨_, rfl, Nat.zero_le _, τ1, F1, .refl t1.ok, h0⟩, ?_⟩
  rintro i m σ2 H2 ⟨rfl, hle, τ2, F2, t2, hinv⟩
  by_cases hlt : i < ds.length
  · refine .inr ⟨it.go i F2 H2 t2.ext.f t2.ok.sub hlt, fun σ' H' => ∃ τ' F', To K F1 H1 σ' τ1 F' H' τ' ∧ inv (i + 1) τ', fun σ' H' ⟨τ', F', t', q⟩ => ⟨ds.length - (i + 1), by omega, rfl, hlt, τ', F', t', q⟩, fun x H' y => ?_⟩
    obtain ⟨d, F3, ed, x3, s3, r3⟩ := it.yld i F2 H2 x H' t2.ext.f t2.ok.sub hlt y
    have T3 : To K F1 H1 σ2 τ1 F3 H' τ2 := t2.trans (.small t2.ok x3 s3)
    refine hg.run σ2 H' τ2 F3 x d _ _ T3.ok r3 (hst i d τ2 ed hinv) fun σ4 τ4 S4 o4 _ _ h4 => ?_
    have T4 : To K F1 H1 σ4 τ1 F3 H' τ4 := T3.at S4 o4
    refine hb.run σ4 H' τ4 F3 _ _ S4 h4 ?_
    have o4 := o1.of T4
    exact ⟨fun σ' τ' F' H' u q => ⟨τ', F', T4.trans u, q⟩, fun σ' τ' F' H' u q => o4.nx σ' τ' F' H' u q, fun σ' τ' F' H' u q => ⟨τ', F', T4.trans u, q⟩, o4.rt, o4.ex, o4.rf⟩
  · have e : i = ds.length := by omega
    subst e
    exact .inl ⟨it.stop F2 H2 t2.ext.f t2.ok.sub, o1.nx σ2 τ2 F2 H2 t2 (hd τ2 hinv)⟩

/-! ### defs and their calls -/
abbrev FS := List Cell → (D → List Cell → Prop) → (Xn → List Cell → Prop) → Prop
/-- what stands behind a call where the own lists were handed in -/
structure CsOk (K : PySem.W.Frag) (H0 F H : Hp) (cs cs' : List Cell) : Prop where
  len : cs'.length = cs.length
  same : ∀ (i : Nat) (p : Addr) (ds : Cont), cs[i]? = some (Cell.own p ds) → ∃ ds', cs'[i]? = some (Cell.own p ds')
  own : OwnOk K F H cs'
  inj : InjOk cs'
  grow : Grow cs H0 cs'
  only : ∀ (i : Nat) (c : Cell) (a : Addr), cs'[i]? = some c → Has c a → ∃ p ds, cs[i]? = some (Cell.own p ds)
def spOf (K : PySem.W.Frag) (n : Nat) (fs : FS) : Sp := fun vs H Q E => vs.length = n ∧ ∃ F cs q e, SOk K F H (vs.map some) cs ∧ fs cs q e ∧
  (∀ v d cs' F' H', Ext cs F H F' H' → Same F' H' → CsOk K H F' H' cs cs' → Rep K F' v d → q d cs' → Q v H') ∧
  (∀ x cls dx cs' F' H', Ext cs F H F' H' → Same F' H' → CsOk K H F' H' cs cs' → XRep K F' H' cls dx x → e x cs' → E cls dx H')
/-- the own parameters are still there -/
def Keeps : List Cell → List Cell → Prop
  | [], _ => True
  | _ :: _, [] => False
  | .own p _ :: cs, c :: τ => (∃ ds', c = .own p ds') ∧ Keeps cs τ
  | .any :: cs, _ :: τ => Keeps cs τ
  | .dat _ :: cs, _ :: τ => Keeps cs τ
def ends : List Cell → List Cell → List Cell
  | [], _ => []
  | cs, [] => cs
  | .own p ds :: cs, c :: τ => c :: ends cs τ
  | .any :: cs, _ :: τ => .any :: ends cs τ
  | .dat d :: cs, _ :: τ => .dat d :: ends cs τ
theorem ends_length : ∀ (cs τ : List Cell), (ends cs τ).length = cs.length
  | [], _ => by unfold ends; rfl
  | .own p ds :: cs, c :: τ => by unfold ends; rw [List.length_cons, List.length_cons, ends_length cs τ]
  | .any :: cs, c :: τ => by unfold ends; rw [List.length_cons, List.length_cons, ends_length cs τ]
  | .dat d :: cs, c :: τ => by unfold ends; rw [List.length_cons, List.length_cons, ends_length cs τ]
  | c :: cs, [] => by cases c <;> rfl
theorem ends_own : ∀ {cs τ : List Cell} {i : Nat} {p : Addr} {ds : Cont}, Keeps cs τ → cs[i]? = some (.own p ds) → ∃ ds', (ends cs τ)[i]? = some (.own p ds') ∧ τ[i]? = some (.own p ds')
  | [], _, i, p, ds, _, h => by simp at h
  | c :: cs, [], i, q, es, k, h => k.elim
  | .own p ds :: cs, c :: τ, 0, q, es, ⟨⟨ds', e⟩, k⟩, h => by
    cases h
    subst e
    exact ⟨ds', rfl, rfl⟩
  | .any :: cs, c :: τ, 0, q, es, k, h => by cases h
  | .dat d :: cs, c :: τ, 0, q, es, k, h => by cases h
  | .own p ds :: cs, c :: τ, i + 1, q, es, ⟨_, k⟩, h => by
    obtain ⟨ds', h1, h2⟩ := ends_own (i := i) k (by simpa using h)
    exact ⟨ds', by unfold ends; simpa using h1, by simpa using h2⟩
  | .any :: cs, c :: τ, i + 1, q, es, k, h => by
    obtain ⟨ds', h1, h2⟩ := ends_own (cs := cs) (τ := τ) (i := i) k (by simpa using h)
    exact ⟨ds', by unfold ends; simpa using h1, by simpa using h2⟩
  | .dat d :: cs, c :: τ, i + 1, q, es, k, h => by
    obtain ⟨ds', h1, h2⟩ := ends_own (cs := cs) (τ := τ) (i := i) k (by simpa using h)
    exact ⟨ds', by unfold ends; simpa using h1, by simpa using h2⟩
theorem ends_has : ∀ {cs τ : List Cell} {i : Nat} {c : Cell} {a : Addr}, Keeps cs τ → (ends cs τ)[i]? = some c → Has c a → τ[i]? = some c ∧ ∃ p ds, cs[i]? = some (.own p ds)
  | [], _, i, c, a, _, h, _ => by simp [ends] at h
  | c :: cs, [], i, d, a, k, h, _ => k.elim
  | .own p ds :: cs, c :: τ, 0, q, es, _, h, _ => by
    have h : c = q := by simpa [ends] using h
    subst h
    exact ⟨rfl, p, ds, rfl⟩
  | .any :: cs, c :: τ, 0, q, es, k, h, f => by
    have h : Cell.any = q := by simpa [ends] using h
    subst h
    exact f.elim
  | .dat d :: cs, c :: τ, 0, q, es, k, h, f => by
    have h : Cell.dat d = q := by simpa [ends] using h
    subst h
    exact f.elim
  | .own p ds :: cs, c :: τ, i + 1, q, es, ⟨_, k⟩, h, f => by
    obtain ⟨h1, p', ds', h2⟩ := ends_has (i := i) k (by simpa [ends] using h) f
    exact ⟨by simpa using h1, p', ds', by simpa using h2⟩
  | .any :: cs, c :: τ, i + 1, q, es, k, h, f => by
    obtain ⟨h1, p', ds', h2⟩ := ends_has (cs := cs) (τ := τ) (i := i) k (by simpa [ends] using h) f
    exact ⟨by simpa using h1, p', ds', by simpa using h2⟩
  | .dat d :: cs, c :: τ, i + 1, q, es, k, h, f => by
    obtain ⟨h1, p', ds', h2⟩ := ends_has (cs := cs) (τ := τ) (i := i) k (by simpa [ends] using h) f
    exact ⟨by simpa using h1, p', ds', by simpa using h2⟩
theorem ends_ok : ∀ {cs τ : List Cell} {i : Nat} {c : Cell}, Keeps cs τ → (ends cs τ)[i]? = some c → c = .any ∨ (∃ d, c = .dat d) ∨ τ[i]? = some c
  | [], _, i, c, _, h => by simp [ends] at h
  | c :: cs, [], i, d, k, h => k.elim
  | .own p ds :: cs, c :: τ, 0, q, _, h => .inr (.inr (by simpa [ends] using h))
  | .any :: cs, c :: τ, 0, q, k, h => .inl (by simpa [ends] using h.symm)
  | .dat d :: cs, c :: τ, 0, q, k, h => .inr (.inl ⟨d, by simpa [ends] using h.symm⟩)
  | .own p ds :: cs, c :: τ, i + 1, q, ⟨_, k⟩, h => by
    have := ends_ok (i := i) (c := q) k (by simpa [ends] using h)
    simpa using this
  | .any :: cs, c :: τ, i + 1, q, k, h => by
    have := ends_ok (cs := cs) (τ := τ) (i := i) (c := q) k (by simpa [ends] using h)
    simpa using this
  | .dat d :: cs, c :: τ, i + 1, q, k, h => by
    have := ends_ok (cs := cs) (τ := τ) (i := i) (c := q) k (by simpa [ends] using h)
    simpa using this
theorem cs_ok {H0 F H : Hp} {cs τ : List Cell} (k : Keeps cs τ) (o : OwnOk K F H τ) (inj : InjOk τ) (g : Grow cs H0 τ) : CsOk K H0 F H cs (ends cs τ) := by
  refine ⟨ends_length cs τ, fun i p ds h => ?_, fun i c h => ?_, fun i j c d a h1 h2 f1 f2 => inj i j c d a (ends_has k h1 f1).1 (ends_has k h2 f2).1 f1 f2, fun a ⟨i, c, h, f⟩ => g a ⟨i, c, (ends_has k h f).1, f⟩, fun i c a h f => (ends_has k h f).2⟩
  · obtain ⟨ds', h1, h2⟩ := ends_own k h
    exact ⟨ds', h1⟩
  · rcases ends_ok k h with rfl | ⟨d, rfl⟩ | h
    · exact trivial
    · exact trivial
    · exact o i c h
theorem own_app {cs : List Cell} {n : Nat} {i : Nat} {c : Cell} (h : (cs ++ List.replicate n Cell.any)[i]? = some c) : c = .any ∨ cs[i]? = some c := by
  by_cases hi : i < cs.length
  · rw [List.getElem?_append_left hi] at h
    exact .inr h
  · rw [List.getElem?_append_right (Nat.le_of_not_lt hi), List.getElem?_replicate] at h
    split at h <;> cases h
    exact .inl rfl
theorem has_app {cs : List Cell} {n : Nat} {i : Nat} {c : Cell} {a : Addr} (h : (cs ++ List.replicate n Cell.any)[i]? = some c) (f : Has c a) : cs[i]? = some c := by
  rcases own_app h with rfl | h
  · exact f.elim
  · exact h
theorem isOwn_app {cs : List Cell} {n : Nat} {p : Addr} (h : IsOwn (cs ++ List.replicate n Cell.any) p) : IsOwn cs p := by
  obtain ⟨i, c, e, f⟩ := h
  exact ⟨i, c, has_app e f, f⟩
theorem app_isOwn {cs : List Cell} {n : Nat} {p : Addr} (h : IsOwn cs p) : IsOwn (cs ++ List.replicate n Cell.any) p := by
  obtain ⟨i, c, e, f⟩ := h
  exact ⟨i, c, by rw [List.getElem?_append_left (List.getElem?_eq_some_iff.mp e).1]; exact e, f⟩
theorem OwnOk.app {F H : Hp} {cs : List Cell} {n : Nat} (o : OwnOk K F H cs) : OwnOk K F H (cs ++ List.replicate n Cell.any) := fun i c h => by
  rcases own_app h with rfl | h
  · exact trivial
  · exact o i c h
theorem InjOk.app {cs : List Cell} {n : Nat} (o : InjOk cs) : InjOk (cs ++ List.replicate n Cell.any) := fun i j c d a h1 h2 f1 f2 => o i j c d a (has_app h1 f1) (has_app h2 f2) f1 f2
theorem Grow.app {cs : List Cell} {n : Nat} {H : Hp} {τ : List Cell} (g : Grow (cs ++ List.replicate n Cell.any) H τ) : Grow cs H τ := fun a h => (g a h).imp isOwn_app id
theorem Ext.app {cs : List Cell} {n : Nat} {F H F' H' : Hp} (x : Ext (cs ++ List.replicate n Cell.any) F H F' H') : Ext cs F H F' H' := by
  refine ⟨x.f, fun a o h => ?_, fun a o h z nt => x.keep a o h (fun q => z (isOwn_app q)) nt, x.there, x.tabs⟩
  rcases x.new a o h with z | z | z
  · exact .inl z
  · exact .inr (.inl z)
  · exact .inr (.inr (isOwn_app z))
end
/-- a def, by its body -/
theorem def_ok {P : Program} {w : World} {K : PySem.W.Frag} {mg : Str → Option Value} {base : Heap} {x qual : Str} {st : Stmt} {f : Addr} {fd : FuncData} {N ps : List Str} {k : Nat} {fs : FS} {wb : SW} (Fn : Fun K x qual st f fd) (S : FnScope N ps (defScope st))
    (hw : ∀ cs q e, cs.length = ps.length → fs cs q e → wb ⟨fun τ => Keeps cs τ ∧ q .non (ends cs τ), fun d τ => Keeps cs τ ∧ q d (ends cs τ), fun _ _ => False, fun _ => False, fun _ => False, fun x τ => Keeps cs τ ∧ e x (ends cs τ)⟩ (cs ++ List.replicate (N.length - ps.length) .any)) 
    (hb : ∀ (cdv : Value) (A : Around) (outer : List Env) (s : Shared) (H : Hp) (E : XK), Room k (A.deeper (envOfC qual (defScope st) s.heap.objs.size f cdv)) → Takes (cxOf (L2.CX P w) P w K mg base N qual (defScope st) f cdv A outer s H E) (fun cls d _ H => E cls d H) →
      ∃ t, PSs (cxOf (L2.CX P w) P w K mg base N qual (defScope st) f cdv A outer s H E) (defBody st) t ∧ DS K (fun cls d _ H => E cls d H) t wb) :
    FnOk P w K mg base (L2.CX P w) (k + 1) f fd ps (spOf K ps.length fs) := by
  refine Fn.okX S (fun vs H Q E h => h.1) (fun cdv A outer s H vs Q E hr h => ?_)
  obtain ⟨t, h1, h2⟩ := hb cdv A outer s H E hr (takes_of rfl rfl rfl rfl)
  refine ⟨t, h1, ?_⟩
  obtain ⟨hl, F, cs, q, e, S0, hf, kq, ke⟩ := h
  have lcs : cs.length = ps.length := by rw [← S0.len, List.length_map]; exact hl
  have S1 : SOk K F H (L2.start N vs) (cs ++ List.replicate (N.length - ps.length) .any) := by
    unfold L2.start
    rw [hl]
    refine ⟨S0.tabs, S0.sub, by simp [lcs, hl], fun i v c e1 e2 => ?_, S0.own.app, S0.inj.app⟩
    by_cases hi : i < cs.length
    · rw [List.getElem?_append_left hi] at e2
      rw [List.getElem?_append_left (by rw [List.length_map, hl, ← lcs]; exact hi)] at e1
      exact S0.slot i v c e1 e2
    · rw [List.getElem?_append_right (Nat.le_of_not_lt hi), List.getElem?_replicate] at e2
      split at e2
      · cases e2; exact trivial
      · cases e2
  refine h2.run _ H _ F _ _ S1 (hw cs q e lcs hf) ⟨fun σ' τ' F' H' u ⟨k, hq⟩ => ?_, fun _ _ _ _ _ z => z, fun _ _ _ _ _ z => z, fun v d τ' F' H' u r ⟨k, hq⟩ => ?_, fun σ' x cls dx τ' F' H' u r ⟨k, hq⟩ => ?_, ?_⟩
  · exact kq .non .non _ F' H' u.ext.app u.ok.sub (cs_ok k u.ok.own u.ok.inj u.grow.app) .non hq
  · exact kq v d _ F' H' u.ext.app u.sub (cs_ok k u.own u.inj u.grow.app) r hq
  · exact ke x cls dx _ F' H' u.ext.app u.ok.sub (cs_ok k u.ok.own u.ok.inj u.grow.app) r hq
  · exact fun _ _ _ _ _ _ _ _ z => False.elim z
/-! .. one that hands back a new list, which nobody else knows -/
abbrev FSF := List Cell → (Cont → List Cell → Prop) → (Xn → List Cell → Prop) → Prop
def spFr (K : PySem.W.Frag) (n : Nat) (fs : FSF) : Sp := fun vs H Q E => vs.length = n ∧ ∃ F cs q e, SOk K F H (vs.map some) cs ∧ fs cs q e ∧
  (∀ p k cs' F' H', Ext cs F H F' H' → Same F' H' → CsOk K H F' H' cs cs' → CellOk K F' H' (.own p k) → (∀ a, Has (.own p k) a → Fr H a ∧ ¬ IsOwn cs' a) → q k cs' → Q (.ref p) H') ∧
  (∀ x cls dx cs' F' H', Ext cs F H F' H' → Same F' H' → CsOk K H F' H' cs cs' → XRep K F' H' cls dx x → e x cs' → E cls dx H')
theorem s_ok {K : PySem.W.Frag} {F H : Hp} {vs : List V} {cs : List Cell} {N ps : List Str} (S0 : SOk K F H (vs.map some) cs) (hl : vs.length = ps.length) : cs.length = ps.length ∧ SOk K F H (L2.start N vs) (cs ++ List.replicate (N.length - ps.length) .any) := by
  have lcs : cs.length = ps.length := by rw [← S0.len, List.length_map]; exact hl
  refine ⟨lcs, ?_⟩
  unfold L2.start
  rw [hl]
  refine ⟨S0.tabs, S0.sub, by simp [lcs, hl], fun i v c e1 e2 => ?_, S0.own.app, S0.inj.app⟩
  by_cases hi : i < cs.length
  · rw [List.getElem?_append_left hi] at e2
    rw [List.getElem?_append_left (by rw [List.length_map, hl, ← lcs]; exact hi)] at e1
    exact S0.slot i v c e1 e2
  · rw [List.getElem?_append_right (Nat.le_of_not_lt hi), List.getElem?_replicate] at e2
    split at e2
    · cases e2; exact trivial
    · cases e2
theorem def_okFr {P : Program} {w : World} {K : PySem.W.Frag} {mg : Str → Option Value} {base : Heap} {x qual : Str} {st : Stmt} {f : Addr} {fd : FuncData} {N ps : List Str} {k : Nat} {fs : FSF} {wb : SW} (Fn : Fun K x qual st f fd) (S : FnScope N ps (defScope st))
    (hw : ∀ cs q e, cs.length = ps.length → fs cs q e → wb ⟨fun _ => False, fun _ _ => False, fun ds τ => Keeps cs τ ∧ q ds (ends cs τ), fun _ => False, fun _ => False, fun x τ => Keeps cs τ ∧ e x (ends cs τ)⟩ (cs ++ List.replicate (N.length - ps.length) .any))
    (hb : ∀ (cdv : Value) (A : Around) (outer : List Env) (s : Shared) (H : Hp) (E : XK), Room k (A.deeper (envOfC qual (defScope st) s.heap.objs.size f cdv)) → Takes (cxOf (L2.CX P w) P w K mg base N qual (defScope st) f cdv A outer s H E) (fun cls d _ H => E cls d H) →
      ∃ t, PSs (cxOf (L2.CX P w) P w K mg base N qual (defScope st) f cdv A outer s H E) (defBody st) t ∧ DS K (fun cls d _ H => E cls d H) t wb) :
    FnOk P w K mg base (L2.CX P w) (k + 1) f fd ps (spFr K ps.length fs) := by
  refine Fn.okX S (fun vs H Q E h => h.1) (fun cdv A outer s H vs Q E hr h => ?_)
  obtain ⟨t, h1, h2⟩ := hb cdv A outer s H E hr (takes_of rfl rfl rfl rfl)
  refine ⟨t, h1, ?_⟩
  obtain ⟨hl, F, cs, q, e, S0, hf, kq, ke⟩ := h
  obtain ⟨lcs, S1⟩ := s_ok (N := N) S0 hl
  refine h2.run _ H _ F _ _ S1 (hw cs q e lcs hf) ⟨fun _ _ _ _ _ z => z.elim, fun _ _ _ _ _ z => z, fun _ _ _ _ _ z => z, fun _ _ _ _ _ _ _ z => z.elim, fun σ' x cls dx τ' F' H' u r ⟨k, hq⟩ => ?_, fun p c τ' F' H' u co n ⟨k, hq⟩ => ?_⟩
  · exact ke x cls dx _ F' H' u.ext.app u.ok.sub (cs_ok k u.ok.own u.ok.inj u.grow.app) r hq
  · exact kq p c _ F' H' u.ext.app u.sub (cs_ok k u.own u.inj u.grow.app) co (fun a f => ⟨(n a f).1, fun ⟨i, d, e, g⟩ => (n a f).2 ⟨i, d, (ends_has k e g).1, g⟩⟩) hq
section
variable {K : PySem.W.Frag} {W : WX}
/-! ### a call -/
inductive Arg where
  | d (d : D) | o (j : Nat)
def slots : List Arg → List Nat
  | [] => []
  | .d _ :: as => slots as
  | .o j :: as => j :: slots as
def cellsOf (τ : List Cell) : List Arg → List Cell
  | [] => []
  | .d d :: as => .dat d :: cellsOf τ as
  | .o j :: as => τ.getD j .any :: cellsOf τ as
def OwnArgs (τ : List Cell) : List Arg → Prop
  | [] => True
  | .d d :: as => OwnArgs τ as
  | .o j :: as => (∃ p es, τ[j]? = some (Cell.own p es)) ∧ OwnArgs τ as
def putBack (τ : List Cell) : List Arg → List Cell → List Cell
  | .o j :: as, c :: cs => putBack (τ.set j c) as cs
  | .d _ :: as, _ :: cs => putBack τ as cs
  | _, _ => τ
inductive ArgsOk (K : PySem.W.Frag) (F : Hp) (σ : L2.St) : List V → List Arg → Prop
  | nil : ArgsOk K F σ [] []
  | d {v : V} {vs : List V} {d : D} {as : List Arg} : Rep K F v d → ArgsOk K F σ vs as → ArgsOk K F σ (v :: vs) (.d d :: as)
  | o {v : V} {vs : List V} {j : Nat} {as : List Arg} : σ[j]? = some (some v) → ArgsOk K F σ vs as → ArgsOk K F σ (v :: vs) (.o j :: as)
theorem ArgsOk.mono {F F' : Hp} {σ : L2.St} (s : Same F F') : ∀ {vs : List V} {as : List Arg}, ArgsOk K F σ vs as → ArgsOk K F' σ vs as
  | _, _, .nil => .nil
  | _, _, .d r t => .d (r.mono s) (ArgsOk.mono s t)
  | _, _, .o e t => .o e (ArgsOk.mono s t)
theorem ArgsOk.length {F : Hp} {σ : L2.St} : ∀ {vs : List V} {as : List Arg}, ArgsOk K F σ vs as → vs.length = as.length
  | _, _, .nil => rfl
  | _, _, .d r t => by rw [List.length_cons, List.length_cons, ArgsOk.length t]
  | _, _, .o e t => by rw [List.length_cons, List.length_cons, ArgsOk.length t]
theorem cellsOf_length (τ : List Cell) : ∀ as, (cellsOf τ as).length = as.length
  | [] => rfl
  | .d d :: as => by unfold cellsOf; rw [List.length_cons, List.length_cons, cellsOf_length τ as]
  | .o d :: as => by unfold cellsOf; rw [List.length_cons, List.length_cons, cellsOf_length τ as]
theorem cellsOf_any {τ : List Cell} : ∀ {as : List Arg} {k : Nat} {c : Cell}, (cellsOf τ as)[k]? = some c → c = .any ∨ (∃ d, c = .dat d) ∨ ∃ j, as[k]? = some (.o j) ∧ τ[j]? = some c
  | [], k, c, h => by simp [cellsOf] at h
  | .d d :: as, 0, c, h => .inr (.inl ⟨d, by simpa [cellsOf] using h.symm⟩)
  | .o j :: as, 0, c, h => by
    have h : τ.getD j .any = c := by simpa [cellsOf] using h
    rw [List.getD_eq_getElem?_getD] at h
    cases e : τ[j]? with
    | none => rw [e] at h; exact .inl h.symm
    | some c' => rw [e] at h; exact .inr (.inr ⟨j, rfl, e.trans (congrArg some h)⟩)
  | .d d :: as, k + 1, c, h => by
    have := cellsOf_any (as := as) (k := k) (c := c) (by simpa [cellsOf] using h)
    simpa using this
  | .o d :: as, k + 1, c, h => by
    have := cellsOf_any (as := as) (k := k) (c := c) (by simpa [cellsOf] using h)
    simpa using this
theorem cellsOf_has {τ : List Cell} {as : List Arg} {k : Nat} {c : Cell} {a : Addr} (h : (cellsOf τ as)[k]? = some c) (f : Has c a) : ∃ j, as[k]? = some (.o j) ∧ τ[j]? = some c := by
  rcases cellsOf_any h with rfl | ⟨d, rfl⟩ | h
  · exact f.elim
  · exact f.elim
  · exact h
theorem mem_slots : ∀ {as : List Arg} {k j : Nat}, as[k]? = some (.o j) → j ∈ slots as
  | [], k, j, h => by simp at h
  | .d d :: as, 0, j, h => by cases h
  | .o i :: as, 0, j, h => by cases h; exact List.mem_cons_self ..
  | .d d :: as, k + 1, j, h => mem_slots (as := as) (k := k) (by simpa using h)
  | .o i :: as, k + 1, j, h => List.mem_cons_of_mem _ (mem_slots (as := as) (k := k) (by simpa using h))
theorem cellsOf_isOwn {τ : List Cell} {as : List Arg} {a : Addr} (h : IsOwn (cellsOf τ as) a) : ∃ j c, j ∈ slots as ∧ τ[j]? = some c ∧ Has c a := by
  obtain ⟨k, c, e, f⟩ := h
  obtain ⟨j, e1, e2⟩ := cellsOf_has e f
  exact ⟨j, c, mem_slots e1, e2, f⟩
theorem slots_mem : ∀ {as : List Arg} {j : Nat}, j ∈ slots as → ∃ k : Nat, as[k]? = some (Arg.o j)
  | [], j, h => by simp [slots] at h
  | .d d :: as, j, h => by
    obtain ⟨k, e⟩ := slots_mem (as := as) h
    exact ⟨k + 1, by simpa using e⟩
  | .o i :: as, j, h => by
    rcases List.mem_cons.mp h with rfl | h
    · exact ⟨0, rfl⟩
    · obtain ⟨k, e⟩ := slots_mem (as := as) h
      exact ⟨k + 1, by simpa using e⟩
theorem slot_inj : ∀ {as : List Arg} {k l j : Nat}, (slots as).Nodup → as[k]? = some (.o j) → as[l]? = some (.o j) → k = l
  | [], k, l, j, _, h, _ => by simp at h
  | .d d :: as, 0, l, j, _, h, _ => by cases h
  | .d d :: as, k, 0, j, _, _, h => by cases h
  | .d d :: as, k + 1, l + 1, j, nd, h, h' => congrArg (· + 1) (slot_inj (as := as) (k := k) (l := l) nd (by simpa using h) (by simpa using h'))
  | .o i :: as, 0, 0, j, _, _, _ => rfl
  | .o i :: as, 0, l + 1, j, nd, h, h' => by
    cases h
    exact absurd (mem_slots (as := as) (k := l) (by simpa using h')) (List.nodup_cons.mp nd).1
  | .o i :: as, k + 1, 0, j, nd, h, h' => by
    cases h'
    exact absurd (mem_slots (as := as) (k := k) (by simpa using h)) (List.nodup_cons.mp nd).1
  | .o i :: as, k + 1, l + 1, j, nd, h, h' => congrArg (· + 1) (slot_inj (as := as) (k := k) (l := l) (List.nodup_cons.mp nd).2 (by simpa using h) (by simpa using h'))
theorem putBack_out : ∀ {as : List Arg} {cs τ : List Cell} {i : Nat}, i ∉ slots as → (putBack τ as cs)[i]? = τ[i]?
  | [], cs, τ, i, _ => by cases cs <;> rfl
  | .d d :: as, [], τ, i, h => rfl
  | .o d :: as, [], τ, i, h => rfl
  | .d d :: as, c :: cs, τ, i, h => putBack_out (as := as) h
  | .o j :: as, c :: cs, τ, i, h => by
    have h' : i ≠ j ∧ i ∉ slots as := by simpa [slots] using h
    show (putBack (τ.set j c) as cs)[i]? = _
    rw [putBack_out (as := as) h'.2, List.getElem?_set_ne (Ne.symm h'.1)]
theorem putBack_length : ∀ {as : List Arg} {cs τ : List Cell}, (putBack τ as cs).length = τ.length
  | [], cs, τ => by cases cs <;> rfl
  | .d d :: as, [], τ => rfl
  | .o d :: as, [], τ => rfl
  | .d d :: as, c :: cs, τ => putBack_length (as := as)
  | .o j :: as, c :: cs, τ => by
    show (putBack (τ.set j c) as cs).length = _
    rw [putBack_length (as := as), List.length_set]
theorem putBack_in : ∀ {as : List Arg} {cs τ : List Cell} {i k : Nat} {c : Cell}, (slots as).Nodup → i < τ.length → as[k]? = some (.o i) → cs[k]? = some c → (putBack τ as cs)[i]? = some c
  | [], cs, τ, i, k, c, _, _, h, _ => by simp at h
  | .d d :: as, [], τ, i, k, c, _, _, h, h' => by simp at h'
  | .o d :: as, [], τ, i, k, c, _, _, h, h' => by simp at h'
  | .d d :: as, b :: cs, τ, i, 0, c, _, _, h, _ => by cases h
  | .d d :: as, b :: cs, τ, i, k + 1, c, nd, hi, h, h' => putBack_in (as := as) (k := k) nd hi (by simpa using h) (by simpa using h')
  | .o j :: as, b :: cs, τ, i, 0, c, nd, hi, h, h' => by
    cases h
    cases h'
    show (putBack (τ.set _ _) as cs)[_]? = _
    rw [putBack_out (List.nodup_cons.mp nd).1, List.getElem?_set_self hi]
  | .o j :: as, b :: cs, τ, i, k + 1, c, nd, hi, h, h' => putBack_in (as := as) (k := k) (List.nodup_cons.mp nd).2 (by rw [List.length_set]; exact hi) (by simpa using h) (by simpa using h')
theorem ownArgs_at {τ : List Cell} : ∀ {as : List Arg} {k j : Nat}, OwnArgs τ as → as[k]? = some (.o j) → ∃ p es, τ[j]? = some (Cell.own p es)
  | [], k, j, _, h => by simp at h
  | .d d :: as, 0, j, _, h => by cases h
  | .o i :: as, 0, j, h, e => by cases e; exact h.1
  | .d d :: as, k + 1, j, h, e => ownArgs_at (as := as) (k := k) h (by simpa using e)
  | .o i :: as, k + 1, j, h, e => ownArgs_at (as := as) (k := k) h.2 (by simpa using e)
theorem cellsOf_at {τ : List Cell} : ∀ {as : List Arg} {k j : Nat} {p : Addr} {es : Cont}, as[k]? = some (.o j) → τ[j]? = some (Cell.own p es) → (cellsOf τ as)[k]? = some (.own p es)
  | [], k, j, p, es, h, _ => by simp at h
  | .d d :: as, 0, j, p, es, h, _ => by cases h
  | .o i :: as, 0, j, p, es, h, e => by
    cases h
    show some (τ.getD _ .any) = _
    rw [List.getD_eq_getElem?_getD, e]
    rfl
  | .d d :: as, k + 1, j, p, es, h, e => by
    show (cellsOf τ as)[k]? = _
    exact cellsOf_at (as := as) (by simpa using h) e
  | .o i :: as, k + 1, j, p, es, h, e => by
    show (cellsOf τ as)[k]? = _
    exact cellsOf_at (as := as) (by simpa using h) e
/-- the cells of the arguments describe the values -/
theorem args_slot {F H : Hp} {σ : L2.St} {τ : List Cell} (S : SOk K F H σ τ) : ∀ {vs : List V} {as : List Arg}, ArgsOk K F σ vs as → ∀ (i : Nat) (s : Option V) (c : Cell), (vs.map some)[i]? = some s → (cellsOf τ as)[i]? = some c → SlotOk K F s c
  | _, _, .nil, i, s, c, h, _ => by simp at h
  | _, _, .d (v := v) r t, 0, s, c, h, h' => by
    cases h
    cases h'
    exact ⟨v, rfl, r⟩
  | _, _, .o (v := v) (j := j) e t, 0, s, c, h, h' => by
    cases h
    have h' : τ.getD j .any = c := by simpa [cellsOf] using h'
    rw [List.getD_eq_getElem?_getD] at h'
    cases q : τ[j]? with
    | none => rw [q] at h'; cases h'; exact trivial
    | some c' =>
      rw [q] at h'
      have h' : c' = c := h'
      subst h'
      exact S.slot j _ _ e q
  | _, _, .d r t, i + 1, s, c, h, h' => args_slot S t i s c (by simpa using h) (by simpa [cellsOf] using h')
  | _, _, .o e t, i + 1, s, c, h, h' => args_slot S t i s c (by simpa using h) (by simpa [cellsOf] using h')
abbrev AcW := List Cell → (List Arg → List Cell → Prop) → (Xn → List Cell → Prop) → Prop
structure DAc (K : PySem.W.Frag) (W : WX) (t : TA) (w : AcW) : Prop where
  run : ∀ σ H τ F Q q e, SOk K F H σ τ → w τ q e → (∀ vs as τ' F' H', To K F H σ τ F' H' τ' → ArgsOk K F' σ vs as → q as τ' → Q vs H') → XTo K W F H σ τ e → t σ H Q
def wcNil : AcW := fun τ q _ => q [] τ
def wcCons (we : EW) (wa : AcW) : AcW := fun τ q e => we τ (fun d τ1 => wa τ1 (fun as τ2 => q (.d d :: as) τ2) e) e
def wcOwn (j : Nat) (wa : AcW) : AcW := fun τ q e => (∃ p es, τ[j]? = some (Cell.own p es)) ∧ wa τ (fun as τ2 => q (.o j :: as) τ2) e
theorem dac_nil : DAc K W tNil wcNil := ⟨fun σ H τ F Q q e S hq k _ => k [] [] τ F H (.refl S) .nil hq⟩
theorem dac_cons {t : TE} {u : TA} {w : EW} {v : AcW} (h : DE K W t w) (g : DAc K W u v) : DAc K W (tCons t u) (wcCons w v) := by
  refine ⟨fun σ H τ F Q q e S hw k x => h.run σ H τ F _ _ e S hw (fun z d τ' F' H' t' r h1 => ?_) x⟩
  refine g.run σ H' τ' F' _ _ e t'.ok h1 (fun zs ds τ2 F2 H2 t2 r2 hq => ?_) (x.of t')
  exact k (z :: zs) (.d d :: ds) τ2 F2 H2 (t'.trans t2) (.d (r.mono t2.ext.f) r2) hq
theorem dac_own {j : Nat} {u : TA} {v : AcW} (g : DAc K W u v) : DAc K W (tCons (tVar j) u) (wcOwn j v) := by
  refine ⟨fun σ H τ F Q q e S ⟨⟨p, es, e0⟩, hw⟩ k x => ?_⟩
  obtain ⟨s0, _⟩ := own_at S e0
  refine ⟨.ref p, s0, ?_⟩
  refine g.run σ H τ F _ _ e S hw (fun zs ds τ2 F2 H2 t2 r2 hq => ?_) x
  exact k (.ref p :: zs) (.o j :: ds) τ2 F2 H2 t2 (.o s0 r2) hq
def wCall (n : Nat) (fs : FS) (wa : AcW) : EW := fun τ q e => wa τ (fun as τ' => as.length = n ∧ (slots as).Nodup ∧ OwnArgs τ' as ∧ fs (cellsOf τ' as) (fun d cs' => q d (putBack τ' as cs')) (fun x cs' => e x (putBack τ' as cs'))) e
theorem putBack_alt {H F' H' : Hp} {τ cs' : List Cell} {as : List Arg} (nd : (slots as).Nodup) (oa : OwnArgs τ as) (c : CsOk K H F' H' (cellsOf τ as) cs') (i : Nat) :
    (i ∉ slots as ∧ (putBack τ as cs')[i]? = τ[i]?) ∨ (∃ (k : Nat) (p : Addr) (ds ds' : Cont), as[k]? = some (Arg.o i) ∧ τ[i]? = some (Cell.own p ds) ∧ cs'[k]? = some (Cell.own p ds') ∧ (putBack τ as cs')[i]? = some (Cell.own p ds')) := by
  by_cases h : i ∈ slots as
  · obtain ⟨k, e⟩ := slots_mem h
    obtain ⟨p, es, e1⟩ := ownArgs_at oa e
    obtain ⟨ds', e2⟩ := c.same k p es (cellsOf_at e e1)
    exact .inr ⟨k, p, es, ds', e, e1, e2, putBack_in nd (List.getElem?_eq_some_iff.mp e1).1 e e2⟩
  · exact .inl ⟨h, putBack_out h⟩
theorem putBack_isOwn {H F' H' : Hp} {τ cs' : List Cell} {as : List Arg} (nd : (slots as).Nodup) (oa : OwnArgs τ as) (c : CsOk K H F' H' (cellsOf τ as) cs') {a : Addr} (h : IsOwn (putBack τ as cs') a) :
    (∃ i d, i ∉ slots as ∧ τ[i]? = some d ∧ Has d a) ∨ IsOwn cs' a := by
  obtain ⟨i, d, e, f⟩ := h
  rcases putBack_alt nd oa c i with ⟨n, z⟩ | ⟨k, p, ds, ds', z1, z2, z3, z4⟩
  · exact .inl ⟨i, d, n, by rw [← z]; exact e, f⟩
  · rw [e] at z4
    cases z4
    exact .inr ⟨k, _, z3, f⟩
theorem call_to {F H F' H' F0 H0 : Hp} {σ : L2.St} {τ τ0 cs' : List Cell} {as : List Arg} (t : To K F0 H0 σ τ0 F H τ) (nd : (slots as).Nodup) (oa : OwnArgs τ as) (x : Ext (cellsOf τ as) F H F' H') (sub : Same F' H') (c : CsOk K H F' H' (cellsOf τ as) cs') :
    To K F0 H0 σ τ0 F' H' (putBack τ as cs') := by
  have alt := putBack_alt nd oa c
  have cown : ∀ {p : Addr}, IsOwn (cellsOf τ as) p → IsOwn τ p := fun {p} h => by
    obtain ⟨j, d, _, e, f⟩ := cellsOf_isOwn h
    exact ⟨j, d, e, f⟩
  -- what a cell that was not handed in has is not the call's
  have apart : ∀ {i : Nat} {d : Cell} {a : Addr}, i ∉ slots as → τ[i]? = some d → Has d a → ¬ IsOwn (cellsOf τ as) a := fun {i d a} n e f h => by
    obtain ⟨j, d', m, e', f'⟩ := cellsOf_isOwn h
    rw [t.ok.inj i j d d' a e e' f f'] at n
    exact n m
  have xt : Ext τ F H F' H' := by
    refine ⟨x.f, fun a o h => ?_, fun a o h z nt => x.keep a o h (fun q => z (cown q)) nt, x.there, x.tabs⟩
    rcases x.new a o h with z | z | z
    · exact .inl z
    · exact .inr (.inl z)
    · exact .inr (.inr (cown z))
  have gr : Grow τ H (putBack τ as cs') := fun a h => by
    rcases putBack_isOwn nd oa c h with ⟨i, d, _, e, f⟩ | h
    · exact .inl ⟨i, d, e, f⟩
    · exact (c.grow a h).imp cown id
  refine To.trans t (σ' := σ) ⟨xt, gr, ⟨xt.tabs t.ok.tabs, sub, by rw [putBack_length]; exact t.ok.len, fun i s cc h1 h2 => ?_, fun i d h => ?_, fun i j d e a h1 h2 f1 f2 => ?_⟩⟩
  · rcases alt i with ⟨_, e⟩ | ⟨k, q, ds, ds2, _, e1, _, e2⟩
    · rw [e] at h2
      exact (t.ok.slot i s cc h1 h2).mono x.f
    · rw [h2] at e2
      cases e2
      exact (show s = some (.ref q) from t.ok.slot i s _ h1 e1)
  · rcases alt i with ⟨hn, e⟩ | ⟨k, q, ds1, ds2, _, e1, e2, e3⟩
    · rw [e] at h
      refine (t.ok.own i d h).move x.f fun a f => ?_
      obtain ⟨g1, u, g2, g3⟩ := (t.ok.own i d h).has f
      have na := apart hn h f
      refine ⟨?_, fun o ho nt => x.keep a o ho na nt⟩
      cases q : F' a with
      | none => rfl
      | some o =>
        rcases x.new a o q with z | z | z
        · rw [g1] at z; cases z
        · exact (z _ g2 g3).elim
        · exact absurd z na
    · rw [h] at e3
      cases e3
      exact c.own k _ e2
  · have cross : ∀ {i j : Nat} {d e : Cell}, i ∉ slots as → τ[i]? = some d → Has d a → ∀ k, cs'[k]? = some e → Has e a → False := fun {i j d e} n z f k z' f' => by
      rcases c.grow a ⟨k, e, z', f'⟩ with y | y
      · exact apart n z f y
      · obtain ⟨_, u, g2, g3⟩ := (t.ok.own i d z).has f
        exact y u g2 g3
    rcases alt i with ⟨n1, z1⟩ | ⟨k1, p1, ds1, ds1', y1, y2, y3, y4⟩
    · rw [z1] at h1
      rcases alt j with ⟨n2, z2⟩ | ⟨k2, p2, ds2, ds2', x1, x2, x3, x4⟩
      · rw [z2] at h2
        exact t.ok.inj i j d e a h1 h2 f1 f2
      · rw [h2] at x4
        cases x4
        exact (cross (j := j) n1 h1 f1 k2 x3 f2).elim
    · rw [h1] at y4
      cases y4
      rcases alt j with ⟨n2, z2⟩ | ⟨k2, p2, ds2, ds2', x1, x2, x3, x4⟩
      · rw [z2] at h2
        exact (cross (j := i) n2 h2 f2 k1 y3 f1).elim
      · rw [h2] at x4
        cases x4
        have := c.inj k1 k2 _ _ a y3 x3 f1 f2
        subst this
        rw [y1] at x1
        cases x1
        rfl
theorem pre_call {F H F0 H0 : Hp} {σ : L2.St} {τ τ0 : List Cell} {vs : List V} {as : List Arg} (t : To K F0 H0 σ τ0 F H τ) (a : ArgsOk K F σ vs as) (nd : (slots as).Nodup) : SOk K F H (vs.map some) (cellsOf τ as) := by
  refine ⟨t.ok.tabs, t.ok.sub, by rw [List.length_map, cellsOf_length, a.length], args_slot t.ok a, fun i c e0 => ?_, fun i j c d x e1 e2 f1 f2 => ?_⟩
  · rcases cellsOf_any e0 with rfl | ⟨d, rfl⟩ | ⟨j, _, e2⟩
    · exact trivial
    · exact trivial
    · exact t.ok.own j c e2
  · obtain ⟨k1, a1, b1⟩ := cellsOf_has e1 f1
    obtain ⟨k2, a2, b2⟩ := cellsOf_has e2 f2
    have ek := t.ok.inj k1 k2 c d x b1 b2 f1 f2
    subst ek
    exact slot_inj nd a1 a2
theorem de_call {n : Nat} {fs : FS} {t : TA} {w : AcW} (h : DAc K W t w) : DE K W (tCallS (spOf K n fs) (L2.WE W) t) (wCall n fs w) := by
  refine ⟨fun σ H τ F Q q e S hw k x => h.run σ H τ F _ _ e S hw (fun vs as τ' F' H' t' a ⟨hl, nd, oa, hf⟩ => ?_) x⟩
  exact ⟨by rw [a.length]; exact hl, F', cellsOf τ' as, _, _, pre_call t' a nd, hf, fun v d cs' F2 H2 x2 s2 c2 r2 hq => k v d _ F2 H2 (call_to t' nd oa x2 s2 c2) r2 hq, fun y cls dx cs' F2 H2 x2 s2 c2 r2 hq => x y cls dx _ F2 H2 (call_to t' nd oa x2 s2 c2) r2 hq⟩
/-- x = f(..), f hands back a new list: it becomes an own one -/
def wCallOwn (i n : Nat) (fs : FSF) (wa : AcW) : SW := fun E τ => wa τ (fun as τ' => as.length = n ∧ (slots as).Nodup ∧ OwnArgs τ' as ∧ fs (cellsOf τ' as) (fun k cs' => ∀ p, E.nx ((putBack τ' as cs').set i (.own p k))) (fun x cs' => E.ex x (putBack τ' as cs'))) E.ex
theorem ds_callOwn {i n : Nat} {fs : FSF} {t : TA} {w : AcW} (h : DAc K W t w) : DS K W (tAsg (tCallS (spFr K n fs) (L2.WE W) t) (gName i)) (wCallOwn i n fs w) := by
  refine ⟨fun σ H τ F Dn E S hw o => h.run σ H τ F _ _ E.ex S hw (fun vs as τ' F' H' t' a ⟨hl, nd, oa, hf⟩ => ?_) o.xto⟩
  refine ⟨by rw [a.length]; exact hl, F', cellsOf τ' as, _, _, pre_call t' a nd, hf, fun p k cs' F2 H2 x2 s2 c2 ck nk hq => ?_, fun y cls dx cs' F2 H2 x2 s2 c2 r2 hq => ?_⟩
  · have T := call_to t' nd oa x2 s2 c2
    have nO : ∀ b, Has (.own p k) b → ¬ IsOwn (putBack τ' as cs') b := fun b f z => by
      rcases putBack_isOwn nd oa c2 z with ⟨j, d, _, e, g⟩ | z
      · obtain ⟨_, u, g2, g3⟩ := (t'.ok.own j d e).has g
        exact (nk b f).1 u g2 g3
      · exact (nk b f).2 z
    exact o.nx _ _ F2 H2 ⟨T.ext, grow_set T fun b f => t'.back (nk b f).1, T.ok.setOwn ck nO⟩ (hq p)
  · exact o.ex σ y cls dx _ F2 H2 (call_to t' nd oa x2 s2 c2) r2 hq
end
end L3

/-! ## more operations -/
namespace L3
open PySem PySem.Spec PyProof.Rows L2
variable [TB : TabT]
section
variable {K : PySem.W.Frag} {W : WX}
theorem de_ty {n : String} : DE K W (tC (.ty n)) (wC (.ty n)) := de_c fun _ => .ty n
def wNeg (we : EW) : EW := fun τ q e => we τ (fun d τ' => ∃ i, d = .int i ∧ q (.int (-i)) τ') e
theorem de_neg {t : TE} {w : EW} (h : DE K W t w) : DE K W (tUn (rU fun i => .int (-i)) t) (wNeg w) := by
  refine ⟨fun σ H τ F Q q e S hw k x => h.run σ H τ F _ _ e S hw (fun v d τ' F' H' t' r ⟨i, e', hq⟩ => ?_) x⟩
  subst e'
  exact ⟨i, r.int_of, k _ _ τ' F' H' t' (.int _) hq⟩
/-- plain things, compared by their values -/
def scD : D → Option V
  | .non => some .non | .bl b => some (.bl b) | .int i => some (.int i) | .str x => some (.str x) | _ => none
theorem sc_of {F : Hp} {v u : V} {d : D} (r : Rep K F v d) (h : scD d = some u) : v = u := by
  cases r <;> cases h <;> rfl
def gEq : D → D → (D → Prop) → Prop := fun x y q => ∃ v u, scD x = some v ∧ scD y = some u ∧ scal v u = true ∧ q (.bl (decide (v = u)))
def gNe : D → D → (D → Prop) → Prop := fun x y q => ∃ v u, scD x = some v ∧ scD y = some u ∧ scal v u = true ∧ q (.bl (!decide (v = u)))
theorem o_eq : Op2 K rEq gEq := by
  rintro F H x y d1 d2 q Q s r1 r2 ⟨v, u, e1, e2, hs, hq⟩ k
  rw [sc_of r1 e1, sc_of r2 e2]
  exact ⟨hs, k _ _ F H (.refl _ _ _) s (.bl _) hq⟩
theorem o_ne : Op2 K rNe gNe := by
  rintro F H x y d1 d2 q Q s r1 r2 ⟨v, u, e1, e2, hs, hq⟩ k
  rw [sc_of r1 e1, sc_of r2 e2]
  exact ⟨hs, k _ _ F H (.refl _ _ _) s (.bl _) hq⟩
def isNonD : D → Bool | .non => true | _ => false
theorem non_iff {F : Hp} {v : V} {d : D} (r : Rep K F v d) : decide (v = .non) = isNonD d := by
  cases r <;> simp [isNonD]
def rIsN : R2 := fun x y H Q => y = .non ∧ Q (.bl (decide (x = .non))) H
def rNotN : R2 := fun x y H Q => y = .non ∧ Q (.bl (!decide (x = .non))) H
def gIsN : D → D → (D → Prop) → Prop := fun x y q => y = .non ∧ q (.bl (isNonD x))
def gNotN : D → D → (D → Prop) → Prop := fun x y q => y = .non ∧ q (.bl (!isNonD x))
theorem o_isN : Op2 K rIsN gIsN := by
  rintro F H x y d1 d2 q Q s r1 r2 ⟨rfl, hq⟩ k
  cases r2
  exact ⟨rfl, by rw [non_iff r1]; exact k _ _ F H (.refl _ _ _) s (.bl _) hq⟩
theorem o_notN : Op2 K rNotN gNotN := by
  rintro F H x y d1 d2 q Q s r1 r2 ⟨rfl, hq⟩ k
  cases r2
  exact ⟨rfl, by rw [non_iff r1]; exact k _ _ F H (.refl _ _ _) s (.bl _) hq⟩
mutual
def toPy : D → Option PyData
  | .non => some .none | .bl b => some (.bool b) | .int i => some (.int i) | .str x => some (.str x)
  | .tup ds => (toPys ds).map .tuple | .lst ds => (toPys ds).map .list | .fl ds => (toPys ds).map .list | _ => none
def toPys : List D → Option (List PyData)
  | [] => some []
  | d :: ds => (toPy d).bind fun p => (toPys ds).map fun ps => p :: ps
end
mutual
theorem dp_of {F : Hp} : ∀ {d : D} {v : V} {p : PyData}, Rep K F v d → toPy d = some p → Dp K F v p
  | .non, _, _, r, h => by cases r; cases h; exact .non
  | .bl b, _, _, r, h => by cases r; cases h; exact .bl b
  | .int b, _, _, r, h => by cases r; cases h; exact .int b
  | .str b, _, _, r, h => by cases r; cases h; exact .str b
  | .tup ds, _, p, r, h => by
    cases r with
    | tup hs r =>
      have h : (toPys ds).map PyData.tuple = some p := by rw [← h]; rfl
      cases e : toPys ds with
      | none => rw [e] at h; cases h
      | some ps => rw [e] at h; cases h; exact .tup hs (dps_of r e)
  | .lst ds, _, p, r, h => by
    cases r with
    | lst hs r =>
      have h : (toPys ds).map PyData.list = some p := by rw [← h]; rfl
      cases e : toPys ds with
      | none => rw [e] at h; cases h
      | some ps => rw [e] at h; cases h; exact .lst (.inl (.inl hs)) (dps_of r e)
  | .fl ds, _, p, r, h => by
    cases r with
    | fl hs r =>
      have h : (toPys ds).map PyData.list = some p := by rw [← h]; rfl
      cases e : toPys ds with
      | none => rw [e] at h; cases h
      | some ps => rw [e] at h; cases h; exact .lst hs (dps_of r e)
  | .ty n, _, _, r, h => by cases h
  | .oth n, _, _, r, h => by cases h
  | .ins c n, _, _, r, h => by cases h
  | .adr q, _, _, r, h => by cases h
theorem dps_of {F : Hp} : ∀ {ds : List D} {vs : List V} {ps : List PyData}, Reps K F vs ds → toPys ds = some ps → DpAll K F vs ps
  | [], _, _, r, h => by cases r; cases h; exact .nil
  | d :: ds, _, ps, r, h => by
    cases r with
    | cons r1 r2 =>
      have h : ((toPy d).bind fun p => (toPys ds).map fun ps => p :: ps) = some ps := by rw [← h]; rfl
      cases e : toPy d with
      | none => rw [e] at h; cases h
      | some p =>
        rw [e] at h
        cases e2 : toPys ds with
        | none => rw [e2] at h; cases h
        | some qs => rw [e2] at h; cases h; exact .cons (dp_of r1 e) (dps_of r2 e2)
end
mutual
theorem Dp_mono {F F' : Hp} (s : Same F F') : ∀ {v : V} {p : PyData}, Dp K F v p → Dp K F' v p
  | _, _, .non => .non
  | _, _, .bl b => .bl b
  | _, _, .int i => .int i
  | _, _, .str x => .str x
  | _, _, .tup h r => .tup (SqT_mono s h) (DpAll_mono s r)
  | _, _, .lst h r => .lst (s.seq h) (DpAll_mono s r)
theorem DpAll_mono {F F' : Hp} (s : Same F F') : ∀ {vs : List V} {ps : List PyData}, DpAll K F vs ps → DpAll K F' vs ps
  | _, _, .nil => .nil
  | _, _, .cons h r => .cons (Dp_mono s h) (DpAll_mono s r)
end
/-- things of any depth, compared by their values -/
def gEqD : D → D → (D → Prop) → Prop := fun x y q => ∃ v u, toPy x = some v ∧ toPy y = some u ∧ SeqAt.shaped v = true ∧ SeqAt.shaped u = true ∧ q (.bl (PyData.eqv v u))
def gNeD : D → D → (D → Prop) → Prop := fun x y q => ∃ v u, toPy x = some v ∧ toPy y = some u ∧ SeqAt.shaped v = true ∧ SeqAt.shaped u = true ∧ q (.bl (!PyData.eqv v u))
theorem o_eqD : Op2 K (rEqD K) gEqD := by
  rintro F H x y d1 d2 q Q s r1 r2 ⟨v, u, e1, e2, h1, h2, hq⟩ k
  exact ⟨v, u, Dp_mono s (dp_of r1 e1), Dp_mono s (dp_of r2 e2), h1, h2, k _ _ F H (.refl _ _ _) s (.bl _) hq⟩
theorem o_neD : Op2 K (rNeD K) gNeD := by
  rintro F H x y d1 d2 q Q s r1 r2 ⟨v, u, e1, e2, h1, h2, hq⟩ k
  exact ⟨v, u, Dp_mono s (dp_of r1 e1), Dp_mono s (dp_of r2 e2), h1, h2, k _ _ F H (.refl _ _ _) s (.bl _) hq⟩
end
end L3

/-! ## names for the generated texts -/
namespace L3
open PySem PySem.Spec PyProof.Rows L2
variable [TB : TabT]
abbrev rAddI : R2 := rI0 fun i j => .int (i + j)
abbrev rSubI : R2 := rI0 fun i j => .int (i - j)
abbrev rLtI : R2 := rI0 fun i j => .bl (decide (i < j))
abbrev rLeI : R2 := rI0 fun i j => .bl (decide (i ≤ j))
abbrev rGtI : R2 := rI0 fun i j => .bl (decide (j < i))
abbrev rGeI : R2 := rI0 fun i j => .bl (decide (j ≤ i))
abbrev rNegI : V → Hp → VK → Prop := rU fun i => .int (-i)
def CMulA (i j : Int) : Prop := CMul i j ∨ CMulW i j
abbrev rMulA : R2 := rI CMulA fun i j => .int (i * j)
abbrev rDivW : R2 := rI CDivW fun i j => .int (i / j)
abbrev rModI : R2 := rI (fun _ j => 0 < j) fun i j => .int (i % j)
abbrev rPowI : R2 := rI CPow fun i j => .int (i ^ j.toNat)
theorem op_mulA {X : Cx} : OpR X (binaryOp .Mult) rMulA := opI fun _ _ _ _ _ _ _ hc q => mul_int q (hc.elim (fun z => z.ok) fun z => z.ok)
abbrev gAddI := g2I fun i j => .int (i + j)
abbrev gSubI := g2I fun i j => .int (i - j)
abbrev gLtI := g2I fun i j => .bl (decide (i < j))
abbrev gLeI := g2I fun i j => .bl (decide (i ≤ j))
abbrev gGtI := g2I fun i j => .bl (decide (j < i))
abbrev gGeI := g2I fun i j => .bl (decide (j ≤ i))
abbrev gMulA := g2IC CMulA fun i j => .int (i * j)
abbrev gDivW := g2IC CDivW fun i j => .int (i / j)
abbrev gModI := g2IC (fun _ j => 0 < j) fun i j => .int (i % j)
abbrev gPowI := g2IC CPow fun i j => .int (i ^ j.toNat)
/-- what is never reached -/
def wNever : SW := fun _ _ => False
theorem ps_neverS {X : Cx} {sts : List Stmt} : PSs X sts tNever := ⟨fun _ _ _ _ _ _ h => h.elim⟩
theorem ps_never1 {X : Cx} {st : Stmt} : PS X st tNever := ⟨fun _ _ _ _ _ _ h => h.elim⟩
theorem ds_neverS {K : PySem.W.Frag} {W : WX} : DS K W tNever wNever := ⟨fun _ _ _ _ _ _ _ h _ => h.elim⟩
section
variable {K : PySem.W.Frag}
theorem o_mulA : Op2 K rMulA gMulA := op2IC fun _ _ _ => .int _
theorem o_fdivW : Op2 K rDivW gDivW := op2IC fun _ _ _ => .int _
end
def PureD (np m : Nat) (fs : FS) (wb : SW) : Prop := ∀ cs q e, cs.length = np → fs cs q e →
  wb ⟨fun τ => Keeps cs τ ∧ q .non (ends cs τ), fun d τ => Keeps cs τ ∧ q d (ends cs τ), fun _ _ => False, fun _ => False, fun _ => False, fun x τ => Keeps cs τ ∧ e x (ends cs τ)⟩ (cs ++ List.replicate m .any)
def PureF (np m : Nat) (fs : FSF) (wb : SW) : Prop := ∀ cs q e, cs.length = np → fs cs q e →
  wb ⟨fun _ => False, fun _ _ => False, fun ds τ => Keeps cs τ ∧ q ds (ends cs τ), fun _ => False, fun _ => False, fun x τ => Keeps cs τ ∧ e x (ends cs τ)⟩ (cs ++ List.replicate m .any)
theorem cmul_l {i j : Int} (h1 : -(2 ^ 64) < i) (h2 : i < 2 ^ 64) : CMulA i j := .inl (.inl ⟨h1, h2⟩)
theorem cmul_r {i j : Int} (h1 : -(2 ^ 64) < j) (h2 : j < 2 ^ 64) : CMulA i j := .inl (.inr ⟨h1, h2⟩)
end L3

/-! ## words for the pure part -/
namespace L3
open PySem PySem.Spec PyProof.Rows L2
variable [TB : TabT]
section
variable {K : PySem.W.Frag}
def isiD : D → String → Bool
  | .bl _, n => n == "bool" || n == "int"
  | .int _, n => n == "int"
  | .str _, n => n == "str"
  | .tup _, n => n == "tuple"
  | .lst _, n => n == "list"
  | .fl _, n => n == "list"
  | _, _ => false
abbrev kinds : List String := ["int", "bool", "str", "tuple", "list"]
mutual
def OkD (K : PySem.W.Frag) : D → Prop
  | .ty _ => False
  | .ins C _ => InsTy K C ∧ ∀ n ∈ kinds, PySem.W.kitOne K (.ref C) (.type n) = some false
  | .adr _ => False
  | .oth t => ∀ n ∈ kinds, PySem.W.kitOne K t (.type n) = some false
  | .tup ds => OkDs K ds
  | .lst ds => OkDs K ds
  | .fl ds => OkDs K ds
  | .non => True
  | .bl _ => True
  | .int _ => True
  | .str _ => True
def OkDs (K : PySem.W.Frag) : List D → Prop
  | [] => True
  | d :: ds => OkD K d ∧ OkDs K ds
end
theorem okDs_mem : ∀ {ds : List D} {d : D}, OkDs K ds → d ∈ ds → OkD K d
  | [], d, _, h => by simp at h
  | x :: ds, d, h, hd => by
    have h : OkD K x ∧ OkDs K ds := by unfold OkDs at h; exact h
    rcases List.mem_cons.mp hd with rfl | hd
    · exact h.1
    · exact okDs_mem h.2 hd
theorem okDs_of : ∀ {ds : List D}, (∀ d ∈ ds, OkD K d) → OkDs K ds
  | [], _ => by unfold OkDs; trivial
  | x :: ds, h => by
    unfold OkDs
    exact ⟨h x (List.mem_cons_self ..), okDs_of fun d hd => h d (List.mem_cons_of_mem _ hd)⟩
theorem okTup {ds : List D} (h : OkD K (.tup ds)) {d : D} (m : d ∈ ds) : OkD K d := okDs_mem (by unfold OkD at h; exact h) m
theorem kit_tbl : ∀ a ∈ ["NoneType", "bool", "int", "str", "tuple", "list"], ∀ n ∈ kinds, kitB a n = some ((a == n) || (a == "bool" && n == "int")) := by decide +kernel
theorem isi_ok {d : D} {n : String} (h : OkD K d) (hn : n ∈ kinds) : TyOk K d ∧ PySem.W.kitOne K (tyD d) (.type n) = some (isiD d n) := by
  have five : n = "int" ∨ n = "bool" ∨ n = "str" ∨ n = "tuple" ∨ n = "list" := by simpa [kinds] using hn
  have t : ∀ a ∈ ["NoneType", "bool", "int", "str", "tuple", "list"], PySem.W.kitOne K (.type a) (.type n) = some ((a == n) || (a == "bool" && n == "int")) := fun a ha => kit_ty (kit_tbl a ha n hn)
  cases d with
  | ty _ => unfold OkD at h; exact h.elim
  | ins C gs => unfold OkD at h; exact ⟨.inr ⟨C, gs, rfl, h.1⟩, h.2 n hn⟩
  | adr _ => unfold OkD at h; exact h.elim
  | oth t => unfold OkD at h; exact ⟨.inl trivial, h n hn⟩
  | non => refine ⟨.inl trivial, (t "NoneType" (by simp)).trans ?_⟩; rcases five with rfl | rfl | rfl | rfl | rfl <;> simp [isiD]
  | bl _ => refine ⟨.inl trivial, (t "bool" (by simp)).trans ?_⟩; rcases five with rfl | rfl | rfl | rfl | rfl <;> simp [isiD]
  | int _ => refine ⟨.inl trivial, (t "int" (by simp)).trans ?_⟩; rcases five with rfl | rfl | rfl | rfl | rfl <;> simp [isiD]
  | str _ => refine ⟨.inl trivial, (t "str" (by simp)).trans ?_⟩; rcases five with rfl | rfl | rfl | rfl | rfl <;> simp [isiD]
  | tup _ => refine ⟨.inl trivial, (t "tuple" (by simp)).trans ?_⟩; rcases five with rfl | rfl | rfl | rfl | rfl <;> simp [isiD]
  | lst _ => refine ⟨.inl trivial, (t "list" (by simp)).trans ?_⟩; rcases five with rfl | rfl | rfl | rfl | rfl <;> simp [isiD]
  | fl _ => refine ⟨.inl trivial, (t "list" (by simp)).trans ?_⟩; rcases five with rfl | rfl | rfl | rfl | rfl <;> simp [isiD]
/-- isinstance(d, n) -/
theorem gIsi_ok {d : D} {n : String} {q : D → Prop} (h : OkD K d) (hn : n ∈ kinds) (hq : q (.bl (isiD d n))) : gIsi K [d, .ty n] q :=
  ⟨d, n, _, rfl, (isi_ok h hn).1, (isi_ok h hn).2, hq⟩
/-- a comprehension that maps what passes the test -/
theorem lc_fm {ds : List D} {τ1 : List Cell} {wg : GW} {wt : TW} {we : EW} {vs : List Nat} {q : D → List Cell → Prop} (f : D → D) (p : D → Bool) (hn : ds.length ≤ 1000)
    (hs : ∀ d ∈ ds, ∀ (k1 : D → List Cell → Prop) (k2 : List Cell → Prop), (p d = true → ∀ τ5, wipeD τ5 vs = wipeD τ1 vs → k1 (f d) τ5) → (p d = false → ∀ τ5, wipeD τ5 vs = wipeD τ1 vs → k2 τ5) →
      wg d (wipeD τ1 vs) fun τ3 => wt τ3 (fun b τ4 => (b = true → we τ4 k1 noX) ∧ (b = false → k2 τ4)) noX)
    (hq : q (.lst ((ds.filter p).map f)) (wipeD τ1 vs)) :
    ds.length ≤ 1000 ∧ ∃ inv : Nat → List D → List Cell → Prop, inv 0 [] (wipeD τ1 vs) ∧
    (∀ i d acc τ2, ds[i]? = some d → inv i acc τ2 → acc.length ≤ i → wg d τ2 fun τ3 => wt τ3 (fun b τ4 => (b = true → we τ4 (fun y τ5 => inv (i + 1) (acc ++ [y]) (wipeD τ5 vs)) noX) ∧ (b = false → inv (i + 1) acc (wipeD τ4 vs))) noX) ∧
    ∀ acc τ2, inv ds.length acc (wipeD τ2 vs) → acc.length ≤ ds.length → q (.lst acc) (wipeD τ2 vs) := by
  refine ⟨hn, fun i acc τ => acc = ((ds.take i).filter p).map f ∧ τ = wipeD τ1 vs, ⟨by simp, rfl⟩, ?_, ?_⟩
  · rintro i d acc τ2 hd ⟨rfl, rfl⟩ _
    have tk : ds.take (i + 1) = ds.take i ++ [d] := by
      rw [List.take_add_one, hd]
      rfl
    refine hs d (List.mem_of_getElem? hd) _ _ (fun hp τ5 e => ⟨?_, e⟩) (fun hp τ5 e => ⟨?_, e⟩)
    · rw [tk, List.filter_append, List.map_append]
      simp [hp]
    · rw [tk, List.filter_append, List.map_append]
      simp [hp]
  · rintro acc τ2 ⟨rfl, e⟩ _
    rw [e, List.take_length]
    exact hq
end
end L3
namespace L3
open PySem PySem.Spec PyProof.Rows L2
variable [TB : TabT]
theorem gIsi_iff {K : PySem.W.Frag} {d : D} {n : String} {q : D → Prop} (h : OkD K d) (hn : n ∈ kinds) : gIsi K [d, .ty n] q ↔ q (.bl (isiD d n)) := by
  refine ⟨fun ⟨d', n', b, e, _, e2, hq⟩ => ?_, gIsi_ok h hn⟩
  cases e
  rw [(isi_ok h hn).2] at e2
  cases e2
  exact hq
end L3
namespace L3
open PySem PySem.Spec PyProof.Rows L2
variable [TB : TabT]
theorem atI_nat' {α : Type} {l : List α} {k : Nat} {x : α} (h : l[k]? = some x) : atI l (k : Int) = some x := by
  have hk := (List.getElem?_eq_some_iff.mp h).1
  unfold atI ixN
  rw [if_pos (Int.natCast_nonneg k), if_pos (by omega)]
  exact h
theorem atI0 {α : Type} {x : α} {r : List α} : atI (x :: r) 0 = some x := atI_nat' (k := 0) rfl
theorem atI1 {α : Type} {x y : α} {r : List α} : atI (x :: y :: r) 1 = some y := atI_nat' (k := 1) rfl
theorem atI2 {α : Type} {x y z : α} {r : List α} : atI (x :: y :: z :: r) 2 = some z := atI_nat' (k := 2) rfl
theorem atI3 {α : Type} {x y z a : α} {r : List α} : atI (x :: y :: z :: a :: r) 3 = some a := atI_nat' (k := 3) rfl
theorem atI4 {α : Type} {x y z a b : α} {r : List α} : atI (x :: y :: z :: a :: b :: r) 4 = some b := atI_nat' (k := 4) rfl
theorem ixN51 : ixN 5 1 = some 1 := by decide
theorem ixN52 : ixN 5 2 = some 2 := by decide
theorem ixN53 : ixN 5 3 = some 3 := by decide
/-- where the law's draws stand -/
def SrcC (c : Cont) : Prop := ∃ (ns : List Int) (i r t f : Int), c = .lst [.lst (ns.map D.int), .int i, .int r, .int t, .int f] ∧ 0 ≤ i ∧ 0 ≤ r
end L3
namespace L3
theorem seqD_t {ds : List D} : seqD (.tup ds) = some ds := rfl
theorem seqD_l {ds : List D} : seqD (.lst ds) = some ds := rfl
theorem seqD_f {ds : List D} : seqD (.fl ds) = some ds := rfl
end L3
namespace L3
open PySem PySem.Spec PyProof.Rows L2
variable [TB : TabT]
theorem atIm1_2 {α : Type} {x y : α} : atI [x, y] (-1) = some y := rfl
theorem atIm1_3 {α : Type} {x y z : α} : atI [x, y, z] (-1) = some z := rfl
theorem gEqD_refl {d : D} {p : PyData} {q : D → Prop} (h : toPy d = some p) (hs : SeqAt.shaped p = true) (hq : q (.bl true)) : gEqD d d q :=
  ⟨p, p, h, h, hs, hs, by rw [SeqAt.eqv_refl _ (SeqAt.canLay_of_shaped hs)]; exact hq⟩
theorem gNeD_refl {d : D} {p : PyData} {q : D → Prop} (h : toPy d = some p) (hs : SeqAt.shaped p = true) (hq : q (.bl false)) : gNeD d d q :=
  ⟨p, p, h, h, hs, hs, by rw [SeqAt.eqv_refl _ (SeqAt.canLay_of_shaped hs)]; exact hq⟩
end L3

/-! ## an own error whose __init__ does nothing, made without arguments -/
namespace L3
open PySem PySem.Spec PyProof.Rows L2
variable [TB : TabT]
section
open PySem.W PySem.Calls PySem.HandSPX
def xA (p1 : Pos) : Arguments := { posonlyargs := [], args := [{ arg := "self", annotation := none, pos := p1 }], vararg := none, kwonlyargs := [], kw_defaults := [], kwarg := none, defaults := [] }
def xB (q1 : Pos) : List Stmt := [.Pass q1]
def xS : Scope := { kind := .function, names := [(PySem.Str.ofString "self", .local)], isGenerator := false, isCoroutine := false, more := [] }
structure Exc0 (K : Frag) (mg : Str → Option Value) (x qn : Str) (C fI : Addr) : Prop where
  gC : mg x = some (.ref C)
  cls : ∃ nm q N bs bm sn sub ab col dd k0 k1 k2 k3 k5, K.lookup C = some (excClassObj nm q C N bs bm true sn sub ab col dd k0 k1 k2 k3 k5 "ValueError.__new__") ∧ refsVE bm = true
  iC : findIn K (.ref C) "__init__" = some (some (.ref fI))
  tC : typeIn K (.ref fI) = some (.type "function")
  kC : keepIn K (.ref C) = true
  exC : subIn K (.ref C) (.type "BaseException") = some true
  tyC : typeIn K (.ref C) = some (.type "type")
  fn : ∃ (oc : Value) (od : Option Addr) (doc pm : Value) (an : Option Addr) (cdv ct : Value) (osl : Array (Option Value)) (p1 q1 : Pos),
    K.lookup fI = some ⟨oc, od, .func (fnOf "__init__" qn (xA p1) (xB q1) xS .none .none doc pm an cdv ct), osl⟩ ∧ codeIn K cdv qn = true
variable {prog : Program} {w : World} {A : Around} {E : Value → Shared → Prop} {R : Result → Shared → Prop} {s : Shared} {K : Frag} {mg : Str → Option Value} {C fI : Addr} {x qn : Str}
theorem exc0_init (T : Exc0 K mg x qn C fI) {e : Addr} (X : K.In s.heap) (hlim : s.heap.NoLimit) (hroom : A.depth < recursionLimit)
    (hq : ∀ h' tk, (∀ b o, s.heap.get? b = some o → h'.get? b = some o) → R (.ok (.ret .none)) { s with heap := h', toks := tk }) :
    codeAny (model prog w) A (.call (.ref fI) ⟨[.ref e], []⟩) R s := by
  obtain ⟨oc, od, doc, pm, an, cdv, ct, osl, p1, q1, ho, hcd⟩ := T.fn
  refine Att.call_fn (binds := [("self", .ref e)]) X hlim ho hcd hroom (BindsTo.of_eq (by first | rfl | with_unfolding_all rfl)) (by first | rfl | decide | with_unfolding_all rfl) (fun s₁ IC => ?_) rfl rfl rfl
  obtain ⟨h₁, tk₁, rfl⟩ := IC.toInCall.same
  have k : ∀ b o, s.heap.get? b = some o → h₁.get? b = some o := IC.toInCall.keep
  show wpAny _ _ (execs _ _) _ _ _
  refine wpAny_execs_cons (wpAny_Pass ?_)
  show wpAny _ _ (execs _ _) _ _ _
  exact wpAny_execs_nil (hq h₁ tk₁ k)
theorem exc0_made (T : Exc0 K mg x qn C fI) (X : K.In s.heap) (hlim : s.heap.NoLimit) (hroom : A.depth + 1 < recursionLimit)
    (hq : ∀ h' tk e, (∀ b o, s.heap.get? b = some o → h'.get? b = some o) → s.heap.objs.size ≤ e → (∃ t0, h'.get? e = some (excO C t0)) → R (.ok (.ret (.ref e))) { s with heap := h', toks := tk }) :
    codeAny (model prog w) A (.call (.ref C) ⟨[], []⟩) R s := by
  obtain ⟨nm, q, N, bs, bm, sn, sub, ab, col, dd, k0, k1, k2, k3, k5, hC, hbm⟩ := T.cls
  obtain ⟨hp, g, dr, tk, os⟩ := s
  have k : ∀ b o, hp.get? b = some o → ((hp.push (kdv_tup [])).push (excO C hp.objs.size)).get? b = some o := fun b o e => Heap.get?_push_of_some _ (Heap.get?_push_of_some _ e)
  have hget : ((hp.push (kdv_tup [])).push (excO C hp.objs.size)).get? (hp.objs.size + 1) = some (excO C hp.objs.size) := by heap_get
  refine call_own F.excBase_ValueError (fun X => refsVE_contains X bm hbm) (X _ _ hC) (looks_findIn X T.iC) (fun self => bind_fn X self T.tC) (Nat.zero_le _) ?_
  refine exc0_init (s := ⟨(hp.push (kdv_tup [])).push (excO C hp.objs.size), g, dr, tk, os⟩) T (X.keeps k) (hlim.keeps k) ?_ fun h' tk' k' => ?_
  · show A.depth + 1 < recursionLimit
    exact hroom
  · exact ⟨rfl, hq h' tk' (hp.objs.size + 1) (fun b o e => k' b o (k b o e)) (Nat.le_succ _) ⟨_, k' _ _ hget⟩⟩
end
section
variable {X : Cx} {C fI : Addr} {x qn : Str}
/-- x() as what is raised -/
theorem pmk0 {p pos : Pos} {k : Nat} (T : Exc0 X.K X.mg x qn C fI) (hr : Room k X.A) (hg : Gl X x := by rfl) (hdb : (x == ("__debug__" : Str)) = false := by decide) :
    PMk X (.Call (.Name x p) [] [] pos) (fun _ H Q => Q (.ref C) none H) := by
  intro pins s σ H Q I h
  refine wpAny_Call_Name_kw (ld_glob I hg T.gC ?_ hdb)
  refine PySem.W.callWith_K0 I.kIn T.kC ?_
  have hlim := I.nolimit
  obtain ⟨hp, g, dr, tk, os⟩ := s
  refine wpAny_call (exc0_made T I.kIn hlim (by have := hr.dp; omega) fun h' tk' e kp hn ⟨t0, he⟩ => ?_)
  show MkP X pins σ Q (.ref e) ⟨h', g, dr, tk', os⟩
  obtain ⟨G', g1, g2⟩ := restrict h' fun b => decide (b ≠ e)
  have gk : ∀ b, b ≠ e → G'.get? b = h'.get? b := fun b hb => g1 b (decide_eq_true hb)
  have ge : G'.get? e = none := g2 e (by simp)
  have old : ∀ b o, hp.get? b = some o → G'.get? b = some o := fun b o q => (gk b (Nat.ne_of_lt (Nat.lt_of_lt_of_le (Heap.lt_size q) hn))).trans (kp b o q)
  have J : Inv X pins σ H ⟨G', g, dr, tk', os⟩ := I.kept (t' := tk') old
  refine ⟨e, _, _, ⟨G', g, dr, tk', os⟩, H, .ref C, none, rfl, J, fun b o q => ?_, ge, he, ⟨rfl, rfl⟩, rfl, rfl, I.hok.fresh hn, rfl, I.bare, raises_own T.exC T.tyC, h⟩
  by_cases hb : b = e
  · have q' : G'.get? b = some o := q
    rw [hb, ge] at q'; cases q'
  · exact (gk b hb).symm.trans q
end
section
variable {K : PySem.W.Frag} {W : WX}
def wRaise0 (C : Addr) : SW := fun E τ => E.ex ⟨C, []⟩ τ
theorem ds_raise0 {C : Addr} : DS K W (fun _ σ H => (fun (_ : L2.St) (H : Hp) (Q : XK) => Q (.ref C) none H) σ H fun cls d H' => W cls d σ H') (wRaise0 C) :=
  ⟨fun σ H τ F Dn E S hw o => o.ex σ _ _ none τ F H (.refl S) ⟨rfl, .inl ⟨rfl, rfl⟩⟩ hw⟩
end
end L3

/-! ## sorted, of things of any depth -/
namespace L3
open PySem PySem.Spec PyProof.Rows L2
variable [TB : TabT]
section
variable {X : Cx}
theorem reads_each {pins : List (Addr × Obj)} {σ : L2.St} {H : Hp} {s : Shared} (I : Inv X pins σ H s) : ∀ {bs : List (V × PyData)} {us : List Value}, Vals (bs.map (·.1)) us → (∀ b ∈ bs, Dp X.K H b.1 b.2) →
    PySem.W.EachIs (fun v (b : V × PyData) => RelV b.1 v) us bs ∧ PySem.W.EachIs (fun v (b : V × PyData) => ∃ as, Reads s.heap v b.2 as) us bs
  | [], _, .nil, _ => ⟨.nil, .nil⟩
  | b :: bs, _, .cons r t, h => by
    obtain ⟨h1, h2⟩ := reads_each I t fun c hc => h c (List.mem_cons_of_mem _ hc)
    exact ⟨.cons r h1, .cons (Dp.reads I b.2 b.1 _ (h b (List.mem_cons_self ..)) r) h2⟩
theorem each_vals : ∀ {bs : List (V × PyData)} {us : List Value}, PySem.W.EachIs (fun v (b : V × PyData) => RelV b.1 v) us bs → Vals (bs.map (·.1)) us
  | _, _, .nil => .nil
  | _, _, .cons r t => .cons r (each_vals t)
def rSortG (K : PySem.W.Frag) : List V → Hp → VK → Prop := fun vs H Q => ∃ (a : Addr) (bs : List (V × PyData)), vs = [.ref a] ∧ SqL K H a (bs.map (·.1)) ∧ (∀ b ∈ bs, Dp K H b.1 b.2) ∧ PySem.W.AllAlike (bs.map (·.2)) ∧ PySem.W.Sortable (bs.map (·.2)) ∧ (∀ b ∈ bs, b.2.depth ≤ 60) ∧
  ∀ p, H p = none → Q (.ref p) (upd H p (.lst ((bs.mergeSort (PySem.W.dataLe false fun b => b.2)).map (·.1))))
theorem cr_sortG (hu : X.A.units + 64 < cLine) : CallR X (.builtin "sorted") (rSortG X.K) := by
  intro pins s σ H vs us Q I r h
  obtain ⟨a, bs, rfl, hs, hd, hal, hk, hdep, q⟩ := h
  obtain ⟨its, rv, hl, hz⟩ := I.list hs
  obtain ⟨u, rfl, ru⟩ := vals1 r
  obtain rfl : u = Value.ref a := ru
  obtain ⟨e1, e2⟩ := reads_each I rv hd
  have hlen : bs.length ≤ sizeLine := by
    have := rv.length
    rw [List.length_map] at this hz
    exact hz
  refine PySem.W.sorted_data (R := fun v (b : V × PyData) => RelV b.1 v) (enc := fun b => b.2) hl.isList e1 e2 hal hk hlen (fun b hb => by have := hdep b hb; omega) fun out ho eo => ?_
  obtain ⟨c, hc⟩ := sortedAll_at s.heap its out.toArray
  have vo := each_vals eo
  have hf := I.hok.fresh (Nat.le_succ s.heap.objs.size)
  refine ⟨.ref (s.heap.objs.size + 1), _, I.laid (t' := s.toks) (fun b o e => sortedAll_old e) (Nat.le_succ _) (o := .lst ((bs.mergeSort (PySem.W.dataLe false fun b => b.2)).map (·.1))) ⟨?_, out, c, vo, hc⟩, rfl, q _ hf⟩
  rw [vo.length, ho]
  exact hlen
end
section
variable {K : PySem.W.Frag} {W : WX}
def pyD (d : D) : PyData := (toPy d).getD .none
def leD (a b : D) : Bool := PySem.W.dataLe false (fun d => pyD d) a b
/-- sorted(xs) -/
def gSort : List D → (D → Prop) → Prop := fun ds q => ∃ es, (ds = [.lst es] ∨ ds = [.fl es]) ∧ (∀ e ∈ es, (toPy e).isSome) ∧ PySem.W.AllAlike (es.map pyD) ∧ PySem.W.Sortable (es.map pyD) ∧ (∀ e ∈ es, (pyD e).depth ≤ 60) ∧ q (.lst (es.mergeSort leD))
theorem reps_pairs {F : Hp} : ∀ {vs : List V} {ds : List D}, Reps K F vs ds → ∃ bs : List (V × D), bs.map (·.1) = vs ∧ bs.map (·.2) = ds ∧ ∀ b ∈ bs, Rep K F b.1 b.2
  | _, _, .nil => ⟨[], rfl, rfl, fun b h => by simp at h⟩
  | _, _, .cons (v := v) (d := d) r t => by
    obtain ⟨bs, h1, h2, h3⟩ := reps_pairs t
    refine ⟨(v, d) :: bs, by rw [List.map_cons, h1], by rw [List.map_cons, h2], fun b hb => ?_⟩
    rcases List.mem_cons.mp hb with rfl | hb
    · exact r
    · exact h3 b hb
theorem pairs_reps {F : Hp} : ∀ {bs : List (V × D)}, (∀ b ∈ bs, Rep K F b.1 b.2) → Reps K F (bs.map (·.1)) (bs.map (·.2))
  | [], _ => .nil
  | b :: bs, h => .cons (h b (List.mem_cons_self ..)) (pairs_reps fun c hc => h c (List.mem_cons_of_mem _ hc))
theorem o_sort : OpN K (rSortG K) gSort := by
  rintro F H xs ds q Q s r ⟨es, e, hsome, hal, hk, hdep, hq⟩ k
  have : ∃ a vs, xs = [.ref a] ∧ SqL K F a vs ∧ Reps K F vs es := by
    rcases e with rfl | rfl
    · obtain ⟨v, rfl, r1⟩ := r.one
      cases r1 with
      | lst h r => exact ⟨_, _, rfl, .inl (.inl h), r⟩
    · obtain ⟨v, rfl, r1⟩ := r.one
      cases r1 with
      | fl h r => exact ⟨_, _, rfl, h, r⟩
  obtain ⟨a, vs, rfl, hs, rs⟩ := this
  obtain ⟨bs, rfl, rfl, hb⟩ := reps_pairs rs
  let f : V × D → V × PyData := fun b => (b.1, pyD b.2)
  have m1 : (bs.map f).map (·.1) = bs.map (·.1) := by rw [List.map_map]; rfl
  have m2 : (bs.map f).map (·.2) = (bs.map (·.2)).map pyD := by rw [List.map_map, List.map_map]; rfl
  refine ⟨a, bs.map f, rfl, by rw [m1]; exact s.seq hs, fun b hm => ?_, by rw [m2]; exact hal, by rw [m2]; exact hk, fun b hm => ?_, fun p hp => ?_⟩
  · obtain ⟨c, hc, rfl⟩ := List.mem_map.mp hm
    have h1 := hsome c.2 (List.mem_map.mpr ⟨c, hc, rfl⟩)
    obtain ⟨pd, e⟩ := Option.isSome_iff_exists.mp h1
    have e2 : pyD c.2 = pd := by unfold pyD; rw [e]; rfl
    show Dp K H c.1 (pyD c.2)
    rw [e2]
    exact Dp_mono s (dp_of (hb c hc) e)
  · obtain ⟨c, hc, rfl⟩ := List.mem_map.mp hm
    exact hdep c.2 (List.mem_map.mpr ⟨c, hc, rfl⟩)
  · have e1 : (bs.map f).mergeSort (PySem.W.dataLe false fun b => b.2) = (bs.mergeSort fun a b => leD a.2 b.2).map f := by
      symm
      apply List.map_mergeSort
      intro a _ b _
      rfl
    have e2 : (bs.mergeSort fun a b => leD a.2 b.2).map (·.2) = (bs.map (·.2)).mergeSort leD := by
      apply List.map_mergeSort
      intro a _ b _
      rfl
    rw [e1, List.map_map]
    have e3 : ((fun b : V × PyData => b.1) ∘ f) = fun b : V × D => b.1 := rfl
    rw [e3]
    obtain ⟨x1, x2⟩ := new_ext (o := .lst ((bs.mergeSort fun a b => leD a.2 b.2).map (·.1))) s hp
    refine k _ (.lst ((bs.map (·.2)).mergeSort leD)) _ _ x1 x2 (.lst upd_same ?_) hq
    rw [← e2]
    refine pairs_reps fun b hm => ?_
    exact (hb b (List.mem_mergeSort.mp hm)).mono (new_same s hp)

/-! ## dicts that are written, things that are only handed about -/
def wDict0 : EW := fun τ q _ => q (.oth (.type "dict")) τ
theorem de_dict0 : DE K W tDNewK wDict0 := by
  refine ⟨fun σ H τ F Q q e S hq k _ p hp => ?_⟩
  obtain ⟨x1, x2⟩ := new_ext (o := .dK []) S.sub hp
  exact k _ _ τ _ _ (.small S x1 x2) (.oth (.base (.dK upd_same))) hq
def keyD : D → Option Key | .int i => some (.inl i) | .str x => some (.inr x) | _ => none
/-- {k: v} -/
def wDict1 (wk wv : EW) : EW := fun τ q e => wk τ (fun k τ1 => wv τ1 (fun _ τ2 => (keyD k).isSome ∧ q (.oth (.type "dict")) τ2) e) e
theorem de_dict1 {tk tv : TE} {wk wv : EW} (hk : DE K W tk wk) (hv : DE K W tv wv) : DE K W (tDisp [(tk, tv)]) (wDict1 wk wv) := by
  refine ⟨fun σ H τ F Q q e S hw kq x p hp => ?_⟩
  have nF := new_not_data S hp
  have nO := new_not_own S hp
  have T0 : To K F H σ τ F (upd H p (.dK [])) τ := (To.refl S).touch (fr_none hp) nF nO (tabs_new hp)
  refine hk.run σ _ τ F _ _ e T0.ok hw (fun v1 d1 τ1 F1 H1 t1 r1 h1 => ?_) (x.of T0)
  refine hv.run σ H1 τ1 F1 _ _ e t1.ok h1 (fun v2 d2 τ2 F2 H2 t2 r2 ⟨hs, hq⟩ => ?_) ((x.of T0).of t1)
  have t12 := t1.trans t2
  have hP : H2 p = some (.dK []) := t12.ext.keep p _ upd_same (fun z => nO z) (fun ps z => by cases z)
  have nF2 : F2 p = none := t12.not_data (o := .dK []) nO upd_same nF
  have nO2 : ¬ IsOwn τ2 p := t12.not_own (o := .dK []) nO upd_same
  obtain ⟨key, ek⟩ := Option.isSome_iff_exists.mp hs
  have ev : v1 = kV key := by
    cases d1 <;> cases ek
    · exact r1.int_of
    · cases r1; rfl
  refine ⟨hP, [(key, v2)], by rw [ev]; rfl, by simp, ?_⟩
  have T2 := T0.trans t12
  have T3 : To K F H σ τ F2 (upd H2 p (.dK (mergeK [] [(key, v2)]))) τ2 := T2.touch (fr_none hp) nF2 nO2 (tabs_dK hP)
  exact kq _ _ τ2 _ _ (T3.freeze (fr_none hp) nF2 upd_same nO2) (.oth (.base (.dK upd_same))) hq
end
end L3

/-! ## enumerate of a tuple, t[::-1] -/
namespace L3
open PySem PySem.Spec PyProof.Rows L2
theorem wp_ctt {M : Model} {A : Around} {Q : Bool → Shared → Prop} {E : Value → Shared → Prop} {s : Shared} {c : Value} (h : ∀ b, Q b s) : wpAny M A (Builtin.SmallTypes.calledThroughType c) Q E s := wpAny_bind (wpAny_stack_any fun _ => wpAny_pure (h _))
theorem meets_enumT (v : Value) (o : Obj) (H : Heap → Prop)
    (hit : ∀ (prog : Program) (w : World) (A : Around) (E : Value → Shared → Prop) (s : Shared) (Q : Value → Shared → Prop), H s.heap →
      Q (.ref s.heap.objs.size) { s with heap := s.heap.push o } → wpAny (model prog w) A (pyIter v) Q E s) :
    Meets (Builtin.«enumerate.__new__» { pos := [.type "enumerate", v] }) fun _ R s => H s.heap ∧
      R (.ok (.ret (.ref (s.heap.push o).objs.size))) { s with heap := (s.heap.push o).push { cls := .type "enumerate", data := .fields #[.none, .bool false, .ref s.heap.objs.size, rawInt 0, .none, .none] } } := by
  refine Meets.of_wp fun prog w A R s h => ?_
  obtain ⟨h1, h2⟩ := h
  have hsub := sub_enumerate
  unfold Builtin.«enumerate.__new__» Builtin.SmallTypes.newClass
  refine wpAny_bind ?_
  show wpAny _ _ ((isType (.type "enumerate")) >>= _) _ _ _
  refine wpAny_bind ?_
  refine wpAny_pure ?_
  refine wpAny_ite_false rfl ?_
  refine wpAny_bind (wpAny_of_eq hsub (wpAny_ite_false rfl (wpAny_pure ?_)))
  refine wpAny_ite_true rfl ?_
  refine wpAny_bind ?_
  have fin : wpAny (model prog w) A.in1 (do
              let __do_lift ← pyIter v
              let __do_lift ←
                Builtin.SmallTypes.newRecord (Value.type "enumerate")
                    (Builtin.SmallTypes.ownedTupleFields ++ [__do_lift, rawInt 0, Value.none, Value.none])
              ret __do_lift) (fun fin s' => ∃ v, fin = Fin.done (Flow.ret v) ∧ R (Except.ok (Flow.ret v)) s') (fun e s' => R (Except.error e) s') s := by
    refine wpAny_bind (hit prog w A.in1 _ s _ h1 ?_)
    refine wpAny_bind ?_
    unfold Builtin.SmallTypes.newRecord
    refine wpAny_newObj_type ?_ (show (6 : Nat) ≤ sizeLine + 2 by decide)
    exact wpAny_pure ⟨_, rfl, h2⟩
  refine wp_ctt fun short => ?_
  cases short
  · refine wpAny_ite_false rfl ?_
    refine wpAny_bind ?_
    refine wpAny_pure (a := (v, none)) ?_
    exact fin
  · refine wpAny_ite_true rfl ?_
    refine wpAny_bind ?_
    refine wpAny_pure (a := (v, none)) ?_
    exact fin
theorem call_enumT {prog : Program} {w : World} {A : Around} {E : Value → Shared → Prop} {s : Shared} {t : Addr} {items : Array Value} {Q : Value → Shared → Prop} (ht : s.heap.IsTuple t items)
    (h : ∀ h' : Heap, IsEnum h' (s.heap.objs.size + 1) s.heap.objs.size 0 .none → h'.IsTupleIter s.heap.objs.size t 0 → h'.objs.size = s.heap.objs.size + 2 → (∀ (b : Addr) (o : Obj), s.heap.get? b = some o → h'.get? b = some o) →
      Q (.ref (s.heap.objs.size + 1)) { s with heap := h' }) : wpAny (model prog w) A (call (.type "enumerate") [.ref t]) Q E s := by
  let io : Obj := { cls := .type "tuple_iterator", data := .fields #[.ref t, .int 0 0] }
  refine callType_new F.called_enumerate (by decide) (F.typeCall_enumerate_1 _) (F.newCall_enumerate_1 _) (fun obj => F.args_object_init_2 obj _) F.entry_enumerate_new (meets_enumT (.ref t) io (fun h => h.IsTuple t items) fun prog w A E s Q hh hq => wpAny_pyIter_tuple hh hq) ⟨ht, ?_⟩
  have hz := Heap.size_push s.heap io
  have he : ((s.heap.push io).push { cls := .type "enumerate", data := .fields #[.none, .bool false, .ref s.heap.objs.size, rawInt 0, .none, .none] }).get? (s.heap.objs.size + 1) = some { cls := .type "enumerate", data := .fields #[.none, .bool false, .ref s.heap.objs.size, rawInt 0, .none, .none] } := by
    rw [← hz]
    exact Heap.get?_push_size (s.heap.push io) rfl
  rw [hz]
  refine ⟨⟨_, he, rfl⟩, h _ he ⟨io, Heap.get?_push_of_some _ (Heap.get?_push_size s.heap rfl), rfl, rfl⟩ ?_ fun b o e => Heap.get?_push_of_some _ (Heap.get?_push_of_some _ e)⟩
  rw [Heap.size_push, hz]
theorem draws_tuple {prog : Program} {w : World} {A : Around} (hh : A.handled = none) (it l : Addr) (hne : l ≠ it) (items : Array Value) :
    Draws prog w A it [it, l] items.size (fun i v => items[i]? = some v) fun i h => h.IsTupleIter it l i ∧ h.IsTuple l items := by
  refine ⟨fun _ _ st => ?_, fun _ _ _ st hk => ⟨st.1.at fun o e => hk it (by simp) o e, st.2.at fun o e => hk l (by simp) o e⟩, fun i s Q E hi st hQ => ?_, fun s Q E st hE => RZ.nextOf_tuple_end hh st.1 st.2 (by simp) hE⟩
  · obtain ⟨o, ho, _⟩ := st.1
    exact ⟨o, ho⟩
  · exact RZ.nextOf_tuple_item (x := items[i]) st.1 st.2 (by simp [hi]) fun h' hit' hs' => hQ items[i] h' s.toks (by simp [hi]) ⟨hit', st.2.extBut hs'.extBut hne⟩ hs'
theorem draws_end {prog : Program} {w : World} {A : Around} (hh : A.handled = none) (it l : Addr) {items : Array Value} {i : Nat} (hi : items[i]? = none) :
    Draws prog w A it [it, l] i (fun _ _ => False) fun j h => j = i ∧ h.IsTupleIter it l j ∧ h.IsTuple l items := by
  refine ⟨fun _ _ st => ?_, fun _ _ _ st hk => ⟨st.1, st.2.1.at fun o e => hk it (by simp) o e, st.2.2.at fun o e => hk l (by simp) o e⟩, fun j s Q E hj st hQ => absurd st.1 (Nat.ne_of_lt hj), fun s Q E st hE => RZ.nextOf_tuple_end hh st.2.1 st.2.2 hi hE⟩
  obtain ⟨o, ho, _⟩ := st.2.1
  exact ⟨o, ho⟩
def IteT (K : PySem.W.Frag) (a : Addr) : It where
  go i H := ∃ xs x, SqT K H a xs ∧ xs[i]? = some x
  yld i H v H' := ∃ T x, v = .ref T ∧ H T = none ∧ H' = upd H T (.tup [.int i, x]) ∧ ∀ xs, SqT K H a xs → xs[i]? = some x
  stop i H := ∃ xs, SqT K H a xs ∧ xs.length ≤ i
theorem turn_enumT {P : Program} {w : World} {K : PySem.W.Frag} {elts : List Expr} {kk : Nat} {tpos : Pos} (a e it : Addr) :
    Turn P w K (.Tuple elts kk tpos) (IteT K a) [e, it] e fun i h => (∃ old, IsEnum h e it (i : Int) old) ∧ h.IsTupleIter it a i ∧ e ≠ it := by
  refine ⟨by simp, fun i h ⟨⟨old, he⟩, ⟨o, ho, hc, hd⟩, _⟩ b hb => ?_, fun i h h' ⟨⟨old, he⟩, hi, hne⟩ k => ⟨⟨old, k e (by simp) _ he⟩, hi.at fun o q => k it (by simp) o q, hne⟩, ?_, ?_, fun A i s Q E ⟨⟨_, he⟩, _⟩ h => wpAny_pyIter_enum he h⟩
  · have e' : b = e ∨ b = it := by simpa using hb
    rcases e' with rfl | rfl
    · exact ⟨_, he, fun v q => by cases q⟩
    · exact ⟨o, ho, fun v q => by rw [hd] at q; cases q⟩
  · rintro X rfl rfl rfl hc i pins s σ H E I hf ⟨⟨old, he⟩, hit, hne⟩ ⟨xs, x, hq, hx⟩
    obtain ⟨its, rv, p, hz⟩ := I.tuple hq
    obtain ⟨u, hu, ru⟩ := rv.get hx
    have hel : e < s.heap.objs.size := Heap.lt_size he
    have hil : it < s.heap.objs.size := by
      obtain ⟨_, q, _⟩ := hit
      exact Heap.lt_size q
    have hat : a ≠ it := fun z => by
      subst z
      obtain ⟨o1, q1, c1, _⟩ := hit
      obtain ⟨o2, q2, c2, _⟩ := p
      rw [q1] at q2; cases q2; rw [c1] at c2; injection c2 with z; exact absurd z (by decide)
    have hae : e ∉ [it, a] := fun z => by
      have z' : e = it ∨ e = a := by simpa using z
      rcases z' with z' | rfl
      · exact hne z'
      · obtain ⟨o2, q2, c2, _⟩ := p
        rw [he] at q2; cases q2; injection c2 with z; exact absurd z (by decide)
    have hi : i < its.toArray.size := by
      rw [List.size_toArray]
      exact (List.getElem?_eq_some_iff.mp hu).1
    refine wpAny_pyNext_enum_itemD (draws_tuple (by exact I.ok.hd hc) it a hat its.toArray) he ⟨hit, p⟩ hi hne hae fun u' h' tk hu' ho hit' hT hsz hk => ?_
    have eu : u' = u := by
      have : its[i]? = some u' := by simpa using hu'
      rw [hu] at this; cases this; rfl
    subst eu
    refine ⟨_, rfl, wpAny_letOwnedTupleGo_enum ho fun h'' he' sb => ?_⟩
    have hT2 := (sb.2 s.heap.objs.size (Nat.ne_of_gt hel)).trans hT
    have I1 := I.turnedNew (h' := h'') (t' := tk + 1) (ch := [e, it]) (T := s.heap.objs.size) (ob := .tup [.int i, x]) (fun b ob hb q => (sb.2 b fun z => hb (by simp [z])).trans (hk b ob (fun z => hb (by simp [z])) (fun z => hb (by simp [z])) q)) hf (Nat.le_refl _)
      ⟨(show (2 : Nat) ≤ sizeLine by decide), [.int i tk, u'], .cons ⟨tk, rfl⟩ (.cons ru .nil), _, hT2, rfl, 0, rfl⟩
    refine ⟨.ref s.heap.objs.size, _, I1, rfl, ⟨_, x, rfl, I.hok.fresh (Nat.le_refl _), rfl, fun ys hy => ?_⟩, ⟨⟨u', he'⟩, hit'.1.at fun o q => (sb.2 it (Ne.symm hne)).trans q, hne⟩, fun b hb => ?_⟩
    · rw [I.tuple_inj hy hq]; exact hx
    · have e' : b = e ∨ b = it := by simpa using hb
      have hb' : b < s.heap.objs.size := by
        rcases e' with rfl | rfl
        · exact hel
        · exact hil
      rw [upd_ne (Nat.ne_of_lt hb')]
      exact (hf b hb).1
  · rintro X rfl rfl rfl hc i pins s σ H E I hf ⟨⟨old, he⟩, hit, hne⟩ ⟨xs, hq, hx⟩
    obtain ⟨its, rv, p, hz⟩ := I.tuple hq
    obtain ⟨f0, f1, f2, f3, f4, f5⟩ := hf it (by simp)
    have hat : a ≠ it := fun z => by
      subst z
      obtain ⟨o1, q1, c1, _⟩ := hit
      obtain ⟨o2, q2, c2, _⟩ := p
      rw [q1] at q2; cases q2; rw [c1] at c2; injection c2 with z; exact absurd z (by decide)
    have hl : its.toArray[i]? = none := by
      have := rv.length
      simp
      omega
    refine wpAny_pyNext_enum_endD (draws_end (by exact I.ok.hd hc) it a hl) he ⟨rfl, hit, p⟩ fun h' eb => ⟨rfl, I.turned (fun b o hb q => eb b o hb q) f0 f1 f3 f4 f5⟩
def iEnumT (K : PySem.W.Frag) (ta : TA) : TI := fun σ H R => ta σ H fun vs H1 => ∃ a xs, vs = [.ref a] ∧ SqT K H1 a xs ∧ R (IteT K a) H1
theorem pi_enumT {X : Cx} {e : Expr} {ta : TA} {p pos tpos : Pos} {elts : List Expr} {kk : Nat} (hg : Gl X "enumerate") (hm : X.mg "enumerate" = none) (ha : PA X [e] ta)
    (hs : starEach [e] X.env = [(false, eval e X.env)] := by rfl) : PI X (.Tuple elts kk tpos) (.Call (.Name "enumerate" p) [e] [] pos) (iEnumT X.K ta) := by
  refine ⟨fun pins s σ H R I h => ?_⟩
  refine Call_ (ld_blt I hg hm boot_enumerate (PyProof.Rows.callWith_type1 (thn (ha.run pos pins s σ H _ I h) fun us s1 ⟨vs, H1, I1, r1, a, xs, ex, hq, q⟩ => ?_) hs rfl) (by decide) (by decide)) rfl
  subst ex
  obtain ⟨u, rfl, ru⟩ := vals1 r1
  obtain rfl : u = .ref a := ru
  obtain ⟨its, rv, p, hz⟩ := I1.tuple hq
  refine call_enumT p fun h' he hit hsz hk => wpAny_pyIter_enum he ?_
  have I2 := I1.kept (t' := s1.toks) hk
  refine ⟨_, [s1.heap.objs.size + 1, s1.heap.objs.size], _, _, H1, rfl, I2, turn_enumT a _ _, ⟨⟨_, he⟩, hit, Nat.succ_ne_self _⟩, fun b hb => ?_, q⟩
  have hle : s1.heap.objs.size ≤ b := by
    have e' : b = s1.heap.objs.size + 1 ∨ b = s1.heap.objs.size := by simpa using hb
    rcases e' with rfl | rfl
    · exact Nat.le_succ _
    · exact Nat.le_refl _
  exact I1.fpOk hle (I1.hok.fresh hle)
section
variable [TB : TabT] {K : PySem.W.Frag} {W : WX}
def wEnumT (wa : AW) : IW := fun τ q e => wa τ (fun ds τ' => ∃ es, ds = [.tup es] ∧ q (es.mapIdx fun i d => .tup [.int i, d]) τ') e
theorem it_enumT {F : Hp} {a : Addr} {xs : List V} {ds : List D} (h : SqT K F a xs) (r : Reps K F xs ds) : ItOk K F (IteT K a) (ds.mapIdx fun i d => .tup [.int i, d]) := by
  refine ⟨fun i F2 H s s2 hi => ?_, fun F2 H s s2 => ⟨xs, SqT_mono s2 (SqT_mono s h), by rw [List.length_mapIdx, r.length]; exact Nat.le_refl _⟩, fun i F2 H x H' s s2 hi y => ?_⟩
  · rw [List.length_mapIdx, ← r.length] at hi
    exact ⟨xs, xs[i], SqT_mono s2 (SqT_mono s h), List.getElem?_eq_getElem hi⟩
  · obtain ⟨T, x', rfl, hT, rfl, e⟩ := y
    obtain ⟨d, e1, e2⟩ := (r.mono s).get (e xs (SqT_mono s2 (SqT_mono s h)))
    obtain ⟨x1, x2⟩ := new_ext (o := .tup [.int i, x']) s2 hT
    refine ⟨.tup [.int i, d], _, by rw [List.getElem?_mapIdx, e1]; rfl, x1, x2, .tup (.inl (.inl upd_same)) (.cons (.int _) (.cons (e2.mono (new_same s2 hT)) .nil))⟩
theorem di_enumT {t : TA} {w : AW} (h : DA K W t w) : DI K W (iEnumT K t) (wEnumT w) := by
  refine ⟨fun σ H τ F R q e S hw k x => h.run σ H τ F _ _ e S hw (fun vs ds τ' F' H' t' r ⟨es, ed, hq⟩ => ?_) x⟩
  subst ed
  obtain ⟨v, rfl, r1⟩ := r.one
  cases r1 with
  | tup hs r2 => exact ⟨_, _, rfl, SqT_mono t'.ok.sub hs, k _ _ τ' F' H' t' (it_enumT hs r2) hq⟩
end

/-! ### t[::-1] -/
theorem fm_congr {α β : Type} {f g : α → Option β} : ∀ {l : List α}, (∀ k ∈ l, f k = g k) → l.filterMap f = l.filterMap g
  | [], _ => rfl
  | a :: l, h => by
    have ih := fm_congr (f := f) (g := g) (l := l) fun k hk => h k (List.mem_cons_of_mem _ hk)
    rw [List.filterMap_cons, List.filterMap_cons, h a (List.mem_cons_self ..), ih]
theorem range_rev {α : Type} (l : List α) : (List.range l.length).filterMap (fun k : Nat => l.toArray[(((l.length : Int) - 1) + (k : Int) * (-1)).toNat]?) = l.reverse := by
  have e : ∀ k ∈ List.range l.length, l.toArray[(((l.length : Int) - 1) + (k : Int) * (-1)).toNat]? = l.reverse[k]? := fun k hk => by
    have hk := List.mem_range.mp hk
    have : (((l.length : Int) - 1) + (k : Int) * (-1)).toNat = l.length - 1 - k := by omega
    rw [this, List.getElem?_reverse hk]
    simp
  rw [fm_congr e, ← List.length_reverse]
  generalize l.reverse = m
  induction m with
  | nil => rfl
  | cons x m ih =>
    rw [List.length_cons, List.range_succ_eq_map, List.filterMap_cons]
    simp only [List.getElem?_cons_zero, List.filterMap_map]
    congr 1
theorem slice_rev {prog : Program} {w : World} {A : Around} {E : Value → Shared → Prop} {s : Shared} {sl : Addr} {vs : Value} {n : Nat} {Q : Int × Int × Nat → Shared → Prop} (hs : s.heap.IsSliceOf sl .none .none vs) (ps : IsPart vs (some (-1)))
    (h : Q ((n : Int) - 1, -1, n) s) : wpAny (model prog w) A (Builtin.Slice.sliceApplied (.ref sl) (pure (n : Int))) Q E s := by
  obtain ⟨os, hos, hcs, hds⟩ := hs
  unfold Builtin.Slice.sliceApplied Builtin.Slice.sliceFields
  refine wpAny_bind (wpAny_bind (wpAny_field hos hds rfl (wpAny_bind (wpAny_field hos hds rfl (wpAny_bind (wpAny_field hos hds rfl (wpAny_pure ?_)))))))
  refine wpAny_bind (HT.slicePart_ ps ?_)
  refine wpAny_ite_false (by decide) ?_
  refine wpAny_bind (slicePart_none (wpAny_bind (slicePart_none (wpAny_bind (wpAny_pure ?_)))))
  show wpAny _ _ (pure ((n : Int) - 1, (-1 : Int), Builtin.Slice.slicePlaces ((n : Int) - 1) (-1) (-1))) _ _ _
  have e : Builtin.Slice.slicePlaces ((n : Int) - 1) (-1) (-1) = n := by
    unfold Builtin.Slice.slicePlaces
    rw [if_neg (by decide)]
    by_cases hn : (n : Int) - 1 > -1
    · rw [if_pos hn]
      show (((n : Int) - 1 - -1 - 1) / 1 + 1).toNat = n
      rw [Int.ediv_one]
      omega
    · rw [if_neg hn]
      omega
  rw [e]
  exact wpAny_pure h
theorem getItem_tupleRev {prog : Program} {w : World} {A : Around} {E : Value → Shared → Prop} {s : Shared} {t sl : Addr} {its : List Value} {vs : Value} {Q : Value → Shared → Prop} (ht : IsTup s.heap t its.toArray) (hs : s.heap.IsSliceOf sl .none .none vs) (ps : IsPart vs (some (-1)))
    (hz : its.length ≤ sizeLine) (h : Q (.ref s.heap.objs.size) { s with heap := s.heap.push { cls := .type "tuple", data := .seq its.reverse.toArray } }) : wpAny (model prog w) A (getItem (.ref t) (.ref sl)) Q E s := by
  have hTs : s.TypeIs (.ref sl) "slice" := by
    obtain ⟨os, hos, hcs, _⟩ := hs
    exact ⟨os, hos, hcs⟩
  refine wpAny_holding (wpAny_bind (wpAny_sequenceKey ht.typeIs (by decide) (wpAny_bind (wpAny_callSpecial?_slot ht.typeIs slot_tuple_getitem (wpAny_call_entry slot_tuple_getitem ht.typeIs entry_tuple_getitem ?_)))))
  unfold Builtin.«tuple.__getitem__»
  refine wpAny_bind (wpAny_pure (a := (Value.ref t, [Value.ref sl])) ?_)
  refine wpAny_bind (tupleItemsOf_ ht (wpAny_bind (wpAny_typeOf hTs ?_)))
  refine wpAny_ite_true rfl (wpAny_bind (slice_rev hs ps ?_))
  rw [List.size_toArray]
  refine wpAny_ite_false (by simp) ?_
  show wpAny _ _ (Builtin.Tuple.tupleExact (((List.range its.length).filterMap (fun k : Nat => its.toArray[(((its.length : Int) - 1) + (k : Int) * (-1)).toNat]?)).toArray) >>= _) _ _ _
  rw [range_rev]
  refine wpAny_bind (wpAny_newObj_type ?_ (show its.reverse.toArray.size ≤ sizeLine by simpa using hz))
  exact wpAny_pure ⟨_, rfl, wpAny_pure h⟩
def tRevT (K : PySem.W.Frag) (te : TE) : TE := fun σ H Q => te σ H fun x H1 => ∃ a xs, x = .ref a ∧ SqT K H1 a xs ∧ ∀ p, H1 p = none → Q (.ref p) (upd H1 p (.tup xs.reverse))
theorem pe_revT {X : Cx} {e : Expr} {te : TE} {k : Nat} {p1 p2 p3 pos : Pos} (he : PE X e te) :
    PE X (.Subscript e (.Slice none none (some (.UnaryOp .USub (.Constant (.int 1) k p1) p2)) p3) pos) (tRevT X.K te) := by
  refine ⟨fun pins s σ H Q I h => ?_⟩
  refine Subscript_ (thn (he.run pins s σ H _ I h) fun v s1 ⟨x, H1, I1, r1, a, xs, ex, hx, q⟩ => ?_)
  subst ex
  cases r1
  have hst : PO X (some (.UnaryOp .USub (.Constant (.int 1) k p1) p2)) _ := po_some (pe_un un_neg pe_int)
  refine wpAny_Slice (thn (po_none.run pins s1 σ H1 (fun o H2 => o = none ∧ H2 = H1) I1 ⟨rfl, rfl⟩) fun vl s2 ⟨l, H2, I2, pl, el, e2⟩ => ?_)
  subst el; subst e2
  refine thn (po_none.run pins s2 σ H2 (fun o H3 => o = none ∧ H3 = H2) I2 ⟨rfl, rfl⟩) fun vu s3 ⟨u, H3, I3, pu, eu, e3⟩ => ?_
  subst eu; subst e3
  refine thn (hst.run pins s3 σ H3 (fun o H4 => o = some (-1) ∧ H4 = H3) I3 ⟨1, rfl, -1, rfl, rfl, rfl⟩) fun vs s4 ⟨o, H4, I4, ps, eo, e4⟩ => ?_
  subst eo; subst e4
  cases pl
  cases pu
  have I5 := I4.kept (t' := s4.toks) fun b ob q => Heap.get?_push_of_some { cls := Value.type "slice", data := Data.fields #[.none, .none, vs] } q
  obtain ⟨its, r, ht, hz⟩ := I5.tuple hx
  refine tail_any ht.typeIs slot_tuple_getitem.lookup (getItem_tupleRev ht (Heap.IsSliceOf.new s4.heap .none .none vs) ps (by rw [← r.length]; exact hz) ?_) rfl
  refine ⟨.ref _, _, I5.laid (t' := s4.toks) (fun b ob q => Heap.get?_push_of_some _ q) (Nat.le_refl _) (o := .tup xs.reverse) ⟨?_, its.reverse, r.reverse, IsTup.new _ _⟩, rfl, q _ (I5.hok.fresh (Nat.le_refl _))⟩
  rw [List.length_reverse]
  exact hz
section
variable [TB : TabT] {K : PySem.W.Frag} {W : WX}
theorem Reps.reverse {F : Hp} : ∀ {vs : List V} {ds : List D}, Reps K F vs ds → Reps K F vs.reverse ds.reverse
  | _, _, .nil => .nil
  | _, _, .cons h r => by
    rw [List.reverse_cons, List.reverse_cons]
    exact (Reps.reverse r).append (.cons h .nil)
def wRevT (we : EW) : EW := fun τ q e => we τ (fun d τ' => ∃ es, d = .tup es ∧ q (.tup es.reverse) τ') e
theorem de_revT {t : TE} {w : EW} (h : DE K W t w) : DE K W (tRevT K t) (wRevT w) := by
  refine ⟨fun σ H τ F Q q e S hw k x => h.run σ H τ F _ _ e S hw (fun v d τ' F' H' t' r ⟨es, ed, hq⟩ => ?_) x⟩
  subst ed
  cases r with
  | @tup a xs _ hs r =>
    refine ⟨a, xs, rfl, SqT_mono t'.ok.sub hs, fun p hp => ?_⟩
    obtain ⟨x1, x2⟩ := new_ext (o := .tup xs.reverse) t'.ok.sub hp
    exact k _ _ τ' _ _ (t'.trans (.small t'.ok x1 x2)) (.tup (.inl (.inl upd_same)) (r.reverse.mono (new_same t'.ok.sub hp))) hq
theorem o_catT : Op2 K (rCatT K) gCatT := by
  rintro F H x y d1 d2 q Q s r1 r2 ⟨as, bs, rfl, rfl, hn, hl, hq⟩ k
  cases r1 with
  | @tup a xs _ h1 r1 =>
    cases r2 with
    | @tup b ys _ h2 r2 =>
      refine ⟨a, b, xs, ys, rfl, rfl, SqT_mono s h1, SqT_mono s h2, fun z => hn ?_, by rw [r1.length, r2.length]; exact Nat.le_of_lt (small1000 hl), fun z => ?_, fun z p hp => ?_⟩
      · subst z; cases r1; rfl
      · subst z
        cases r2
        exact k _ (.tup as) F H (.refl _ _ _) s (.tup h1 r1) (by rw [List.append_nil] at hq; exact hq)
      · obtain ⟨x1, x2⟩ := new_ext (o := .tup (xs ++ ys)) s hp
        exact k _ (.tup (as ++ bs)) _ _ x1 x2 (.tup (.inl (.inl upd_same)) ((r1.append r2).mono (new_same s hp))) hq
/-- an own list becomes data where it stands -/
def wFrz (i : Nat) : EW := fun τ q _ => ∃ p es, τ[i]? = some (.own p (.lst es)) ∧ q (.lst es) (τ.set i (.dat (.lst es)))
theorem de_frz (i : Nat) : DE K W (tVar i) (wFrz i) := by
  refine ⟨fun σ H τ F Q q e S ⟨p, es, e0, hq⟩ k _ => ?_⟩
  obtain ⟨s0, f0, vs0, h0, r0⟩ := own_lst S e0
  have hi : i < τ.length := (List.getElem?_eq_some_iff.mp e0).1
  refine ⟨.ref p, s0, ?_⟩
  have s : Same F (upd F p (.lst vs0)) := same_upd f0
  refine k (.ref p) (.lst es) _ (upd F p (.lst vs0)) H ⟨⟨s, fun a u e => ?_, fun _ _ e _ _ => e, fun _ e => e, fun g => ⟨g.1, nt_upd nt_lst g.2⟩⟩, fun q h => .inl (isOwn_set (c := .dat (.lst es)) (fun a z => z) h), ⟨⟨S.tabs.1, nt_upd nt_lst S.tabs.2⟩, fun a u e => ?_, by rw [List.length_set]; exact S.len, fun j v c h1 h2 => ?_, fun j c e => ?_, S.inj.set fun a z => z.elim⟩⟩ (.lst upd_same (r0.mono s)) hq
  · by_cases q : a = p
    · subst q; exact .inr (.inr (isOwn_at e0))
    · rw [upd_ne q] at e; exact .inl e
  · by_cases q : a = p
    · subst q; rw [upd_same] at e; rw [h0]; exact e
    · rw [upd_ne q] at e; exact S.sub a u e
  · by_cases e : i = j
    · subst e
      rw [List.getElem?_set_self hi] at h2
      cases h2
      rw [s0] at h1
      cases h1
      exact ⟨.ref p, rfl, .lst upd_same (r0.mono s)⟩
    · rw [List.getElem?_set_ne e] at h2
      exact (S.slot j v c h1 h2).mono s
  · rcases set_get e with ⟨_, rfl, _⟩ | ⟨n, e⟩
    · exact trivial
    · refine (S.own j c e).move s fun a f => ⟨?_, fun u hu _ => hu⟩
      rw [upd_ne (fun z => n (S.inj j i c _ a e e0 f (.inl z)))]
      exact ((S.own j c e).has f).1
end
end L3


/-! ## own classes: an instance is made, its fields are set -/
namespace L3
open PySem PySem.Spec PyProof.Rows L2
variable [TB : TabT]
section
variable {K : PySem.W.Frag} {W : WX}
def putD (f : Str) (d : D) : List (Str × D) → List (Str × D)
  | [] => [(f, d)]
  | (g, e) :: r => if g = f then (g, d) :: r else (g, e) :: putD f d r
theorem frep_put {F : Hp} {f : Str} {v : V} {d : D} (h : Rep K F v d) : ∀ {vs : List (Str × V)} {ds : List (Str × D)}, FRep K F vs ds → FRep K F (putF f v vs) (putD f d ds)
  | _, _, .nil => .cons h .nil
  | _, _, .cons (f := g) (v := u) (vs := vs) r t => by
    unfold putF putD
    by_cases e : g = f
    · simp only [e, if_true]
      exact .cons h t
    · simp only [e, if_false]
      exact .cons r (frep_put h t)
theorem FRep.length {F : Hp} : ∀ {vs : List (Str × V)} {ds : List (Str × D)}, FRep K F vs ds → vs.length = ds.length
  | _, _, .nil => rfl
  | _, _, .cons _ r => by rw [List.length_cons, List.length_cons, FRep.length r]
/-- self.f = e, in a method that has the object for its own -/
def wFld (C : Addr) (i : Nat) (f : Str) (we : EW) : SW := fun E τ => we τ (fun d τ1 => ∃ p dx fs, τ1[i]? = some (.own p (.obj C dx fs)) ∧ fs.length < 1000 ∧ E.nx (τ1.set i (.own p (.obj C dx (putD f d fs))))) E.ex
theorem ds_fld {C : Addr} {i : Nat} {f : Str} {t : TE} {w : EW} (hc : Cls K C) (hn : NoAttr K C f) (h : DE K W t w) : DS K W (sFld K (tVar i) t f) (wFld C i f w) := by
  refine ⟨fun σ H τ F Dn E S hw o => h.run σ H τ F _ _ E.ex S hw (fun v d τ1 F1 H1 t1 r1 ⟨p, dx, fs, e0, hl, hq⟩ => ?_) o.xto⟩
  obtain ⟨s0, f0, ob, h0, r0⟩ := own_at t1.ok e0
  cases r0 with
  | @obj _ _ vs _ r0 =>
    refine ⟨.ref p, s0, p, C, dx, vs, rfl, h0, hc, hn, by rw [r0.length]; exact hl, ?_⟩
    exact o.nx σ _ F1 _ (to_change t1 e0 (.obj (frep_put r1 r0))) hq
/-- an instance whose fields nobody looks at -/
def wMkO (C : Addr) (n : Nat) (fs : FS) (wa : AW) : EW := fun τ q e => wa τ (fun ds τ' => ds.length = n ∧ ∀ x dx, fs (.own x (.obj C dx []) :: ds.map .dat) (fun d cs' => d = .non ∧ (∃ gs, cs'[0]? = some (.own x (.obj C dx gs))) ∧ q (.oth (.ref C)) τ') noX) e
theorem reps_slots {F : Hp} : ∀ {vs : List V} {ds : List D}, Reps K F vs ds → ∀ (i : Nat) (s : Option V) (c : Cell), (vs.map some)[i]? = some s → (ds.map Cell.dat)[i]? = some c → SlotOk K F s c
  | _, _, .nil, i, s, c, h, _ => by simp at h
  | _, _, .cons r t, 0, s, c, h, h' => by
    cases h
    cases h'
    exact ⟨_, rfl, r⟩
  | _, _, .cons r t, i + 1, s, c, h, h' => reps_slots t i s c (by simpa using h) (by simpa using h')
theorem no_own_dat {ds : List D} {i : Nat} {p : Addr} {c : Cont} (h : (ds.map Cell.dat)[i]? = some (.own p c)) : False := by
  rw [List.getElem?_map] at h
  cases e : ds[i]? with
  | none => rw [e] at h; cases h
  | some d => rw [e] at h; cases h
theorem mk_has {a C dx x : Addr} {ds : List D} {i : Nat} {c : Cell} (e : (Cell.own a (.obj C dx []) :: ds.map Cell.dat)[i]? = some c) (f : Has c x) : i = 0 ∧ x = a := by
  cases i with
  | zero => cases e; exact ⟨rfl, flat_has (k := .obj C dx []) trivial f⟩
  | succ i =>
    rw [List.getElem?_cons_succ, List.getElem?_map] at e
    cases q : ds[i]? with
    | none => rw [q] at e; cases e
    | some d => rw [q] at e; cases e; exact f.elim
theorem mk_own {F H : Hp} {a C dx : Addr} {ds : List D} (fa : F a = none) (h : H a = some (.ins C dx [])) : OwnOk K F H (Cell.own a (.obj C dx []) :: ds.map Cell.dat) := fun i c e => by
  cases i with
  | zero => cases e; exact .flat trivial fa h (.obj .nil)
  | succ i =>
    rw [List.getElem?_cons_succ, List.getElem?_map] at e
    cases q : ds[i]? with
    | none => rw [q] at e; cases e
    | some d => rw [q] at e; cases e; exact trivial
theorem mk_inj {a C dx : Addr} {ds : List D} : InjOk (Cell.own a (.obj C dx []) :: ds.map Cell.dat) := fun i j c d x h1 h2 f1 f2 => by
  rw [(mk_has h1 f1).1, (mk_has h2 f2).1]
theorem mk_isOwn {a C dx x : Addr} {ds : List D} (h : IsOwn (Cell.own a (.obj C dx []) :: ds.map Cell.dat) x) : x = a := by
  obtain ⟨i, c, e, f⟩ := h
  exact (mk_has e f).2
theorem de_makeO {C : Addr} {n : Nat} {fs : FS} {t : TA} {w : AW} (c : InsTy K C) (h : DA K W t w) : DE K W (tMake C (spOf K (n + 1) fs) [] (fun _ _ _ => False) t) (wMkO C n fs w) := by
  refine ⟨fun σ H τ F Q q e S hw k x => h.run σ H τ F _ _ e S hw (fun vs ds τ' F' H' t' r ⟨hl, hf⟩ a dx ha hdx hne => ?_) x⟩
  have fa := new_not_data t'.ok ha
  have fdx := new_not_data t'.ok hdx
  have ha1 : (upd H' dx (.own a)) a = none := by rw [upd_ne (fun z => hne z.symm)]; exact ha
  have s2 : Same F' (upd (upd H' dx (.own a)) a (.ins C dx [])) := fun b o e => by
    rw [upd_ne (fun z => by rw [z, fa] at e; cases e), upd_ne (fun z => by rw [z, fdx] at e; cases e)]
    exact t'.ok.sub b o e
  refine ⟨by simp [r.length, hl], F', .own a (.obj C dx []) :: ds.map .dat, _, _, ⟨⟨tabs_new ha1 (tabs_new hdx t'.ok.tabs.1), t'.ok.tabs.2⟩, s2, by simp [r.length], fun i s cc h1 h2 => ?_, mk_own fa upd_same, mk_inj⟩, hf a dx, fun v d cs' F3 H3 x3 s3 c3 r3 ⟨ed, ⟨gs, e0⟩, hq⟩ => ?_, fun _ _ _ _ _ _ _ _ _ _ z => z⟩
  · cases i with
    | zero => cases h1; cases h2; exact rfl
    | succ i => exact reps_slots r i s cc (by simpa only [List.map_cons, List.getElem?_cons_succ, List.append_nil] using h1) (by simpa only [List.getElem?_cons_succ] using h2)
  · subst ed
    refine ⟨by cases r3; rfl, ?_⟩
    obtain ⟨f3, ob, h3, rep, _⟩ := c3.own 0 _ e0
    cases rep with
    | @obj _ _ us _ rep =>
      have e4 : Ext [] F' H' (upd F3 a (.ins C dx us)) H3 := by
        refine ⟨fun b o e => ?_, fun b o e => ?_, fun b o e _ nt => ?_, fun b e => ?_, fun z => ⟨(x3.tabs ⟨tabs_new ha1 (tabs_new hdx z.1), z.2⟩).1, nt_upd nt_ins (x3.tabs ⟨tabs_new ha1 (tabs_new hdx z.1), z.2⟩).2⟩⟩
        · rw [upd_ne (fun z => by rw [z, fa] at e; cases e)]
          exact x3.f b o e
        · by_cases z : b = a
          · subst z; exact .inr (.inl (fr_none ha))
          · rw [upd_ne z] at e
            rcases x3.new b o e with y | y | y
            · exact .inl y
            · refine .inr (.inl ?_)
              by_cases z2 : b = dx
              · rw [z2]; exact fr_none hdx
              · exact fun o' e' => y o' (by rw [upd_ne z, upd_ne z2]; exact e')
            · exact absurd (mk_isOwn y) z
        · have n1 : b ≠ a := fun z => by rw [z, ha] at e; cases e
          have n2 : b ≠ dx := fun z => by rw [z, hdx] at e; cases e
          refine x3.keep b o (by rw [upd_ne n1, upd_ne n2]; exact e) (fun y => n1 (mk_isOwn y)) nt
        · have y := x3.there b e
          by_cases n1 : b = a
          · rw [n1]; exact fr_none ha
          · by_cases n2 : b = dx
            · rw [n2]; exact fr_none hdx
            · exact fun o' e' => y o' (by rw [upd_ne n1, upd_ne n2]; exact e')
      have sub4 : Same (upd F3 a (.ins C dx us)) H3 := fun b o e => by
        by_cases z : b = a
        · subst z; rw [upd_same] at e; rw [h3]; exact e
        · rw [upd_ne z] at e; exact s3 b o e
      exact k _ _ τ' _ H3 (t'.trans (.small t'.ok e4 sub4)) (.oth (.base (.ins upd_same c.cl c.ha c.hn c.ht c.hm))) hq
end
end L3


/-! ## a lambda that is handed to a def which calls it under try -/
namespace L3
open PySem PySem.Spec PyProof.Rows L2
variable [TB : TabT]
section
variable {K : PySem.W.Frag} {W : WX}
theorem pss_ex {X : Cx} {st : List Stmt} {ι : Type} {P : ι → Prop} {t : ι → TS} (h : ∀ i, P i → PSs X st (t i)) : PSs X st (fun D σ H => ∃ i, P i ∧ (σ.length = X.N.length → t i D σ H)) :=
  ⟨fun pins s σ H D I ⟨i, hp, hq⟩ => (h i hp).run pins s σ H D I (hq I.len)⟩
/-- what a def does that calls what it is handed: "told" and what comes, or what `tell` makes of an own error -/
def toldE (K : PySem.W.Frag) (tell : Addr → List D → Prop) (Q : VK) : XK := fun cls d H' => ∃ (C : Addr) (bs : List Bool), cls = .ref C ∧ d = none ∧ tell C (bs.map D.bl) ∧
  ∀ l p, H' l = none → (upd H' l (.lst (bs.map V.bl))) p = none → Q (.ref p) (upd (upd H' l (.lst (bs.map V.bl))) p (.tup [.str "refused", .ref l, .int 0]))
def toldTT (K : PySem.W.Frag) (tell : Addr → List D → Prop) : (XK → Hp → VK → Prop) → Hp → VK → Prop := fun tl H Q => ∀ (E : XK) (Q' : VK),
  (∀ cls d H', toldE K tell Q cls d H' → E cls d H') → (∀ v H', (∀ p, H' p = none → Q (.ref p) (upd H' p (.tup [.str "told", v]))) → Q' v H') → tl E H Q'
def wTold (tell : Addr → List D → Prop) (w : EW) : EW := fun τ q _ => w τ (fun d τ' => q (.tup [.str "told", d]) τ') (fun x τ' => x.fs = [] ∧ ∃ bs : List Bool, tell x.cls (bs.map D.bl) ∧ q (.tup [.str "refused", .lst (bs.map D.bl), .int 0]) τ')
theorem reps_bls {F : Hp} : ∀ {bs : List Bool}, Reps K F (bs.map V.bl) (bs.map D.bl)
  | [] => .nil
  | b :: bs => .cons (.bl b) (reps_bls (bs := bs))
theorem de_told {tell : Addr → List D → Prop} {t : XK → TE} {w : EW} (h : ∀ E : XK, DE K (fun cls d _ H => E cls d H) (t E) w) : DE K W (LamX.tLam TB.T (toldTT K tell) t) (wTold tell w) := by
  refine ⟨fun σ H τ F Q q e S hw k x => ⟨S.tabs.1, fun H1 hx ht E Q' hE hQ => ?_⟩⟩
  have s1 : Same F H1 := fun a o e => hx a o (S.sub a o e) (S.tabs.2 a o e)
  have x1 : Ext [] F H F H1 := ⟨Same.refl F, fun _ _ e => .inl e, fun a o e _ nt => hx a o e nt, fun a fr o e nt => fr o (hx a o e nt) nt, fun g => ⟨ht, g.2⟩⟩
  have t1 : To K F H σ τ F H1 τ := .small S x1 s1
  refine (h E).run σ H1 τ F Q' _ _ t1.ok hw (fun v d τ' F' H' t' r hq => hQ v H' fun p hp => ?_) (fun y cls dx τ' F' H' t' r hq => hE cls dx H' ?_)
  · obtain ⟨x1, x2⟩ := new_ext (o := .tup [.str "told", v]) t'.ok.sub hp
    exact k _ (.tup [.str "told", d]) τ' _ _ ((t1.trans t').trans (.small t'.ok x1 x2)) (.tup (.inl (.inl upd_same)) (.cons (.str _) (.cons (r.mono (new_same t'.ok.sub hp)) .nil))) hq
  · obtain ⟨hf, bs, ht, hq⟩ := hq
    have dn : dx = none := by
      rcases r.f with z | z
      · exact z.2
      · exact absurd hf z.1
    refine ⟨y.cls, bs, r.c, dn, ht, fun l p hl hp => ?_⟩
    obtain ⟨x1, x2⟩ := new_ext (o := .lst (bs.map V.bl)) t'.ok.sub hl
    have t2 := (t1.trans t').trans (.small t'.ok x1 x2)
    obtain ⟨x3, x4⟩ := new_ext (o := .tup [.str "refused", .ref l, .int 0]) x2 hp
    have sF := new_same (o := .tup [.str "refused", .ref l, .int 0]) x2 hp
    exact k _ (.tup [.str "refused", .lst (bs.map D.bl), .int 0]) τ' _ _ (t2.trans (.small t2.ok x3 x4)) (.tup (.inl (.inl upd_same)) (.cons (.str _) (.cons (.lst (sF _ _ upd_same) reps_bls) (.cons (.int _) .nil)))) hq
end
end L3

/-! ## the frame of a law that hands lambdas about -/
namespace L3
open PySem PySem.Spec PyProof.Rows L2
variable [TB : TabT]
theorem pe_told {X : Cx} {st : Stmt} {x a : Str} {g c P : Addr} {fd : FuncData} {k : Nat} {Ng : List Str} {tell : Addr → List D → Prop} {params : Arguments} {body : Expr} {scope : Scope} {t : XK → TE} {p lpos pos : Pos}
    (F : Fun X.K x x st g fd) (hb : L2.Binds X.K fd [a] []) (hg : Gl X x) (hm : X.mg x = some (.ref g)) (Sg : FnScope Ng [a] (defScope st)) (hNg : Ng[0]? = some a) (hva : Vis (defScope st) a)
    (hG : ∀ cdv, LamX.GivesTo X Ng x (defScope st) g cdv (defBody st) a (X.env.qual ++ "<lambda>") (toldTT X.K tell)) (hT : LamX.TabB X.base X.mg c P) (hcode : X.env.code = .ref c)
    (hmT : (P, X.env.qual ++ Str.ofString "<lambda>") ∈ TB.T) (hu : ∀ p ∈ TB.T, p.1 = P → p.2 = X.env.qual ++ Str.ofString "<lambda>") (hr : Room (k + 2) X.A) (L : LamX.LamS X.env.scope scope) (hdef : defaultsOf params X.env = ([], []))
    (hbind : ∀ (q : Str) (cl : List (Str × Addr)) (pm cv ctv : Value), bindArgs (PySem.W.kla_fn (Str.ofString "<lambda>") q params body scope cl pm cv ctv) {} = pure [])
    (hbody : ∀ (A : Around) (outer : List Env) (s : Shared) (H : Hp) (E : XK) (f c' : Addr), Room k (A.deeper (LamX.lamEnv X scope s.heap.objs.size f c')) → PE (LamX.lamCx X A outer s H E scope f c') body (t E))
    (h1 : (x == Str.ofString "__debug__") = false := by decide) (h2 : (a == Str.ofString "__debug__") = false := by decide) (h3 : (a == Str.ofString "__classdict__") = false := by decide) :
    PE X (.Call (.Name x p) [.Lambda params body scope lpos] [] pos) (LamX.tLam TB.T (toldTT X.K tell) t) := by
  obtain ⟨oc, od, kV, doc, pm, an, cdv, ct, osl, rfl, lk, hcg⟩ := F.ex
  exact LamX.pe_lamcall hg hm F.kp lk hcg hb Sg hNg hva (hG cdv) hT hcode hmT hu hr L hdef hbind hbody h1 h2 h3
/-- a def whose code object is known -/
theorem def_okC {P : Program} {w : World} {K : PySem.W.Frag} {mg : Str → Option Value} {base : Heap} {x qual : Str} {st : Stmt} {f : Addr} {N ps : List Str} {k : Nat} {fs : FS} {wb : SW} {kV doc pm cdv ct oc : Value} {an od : Option Addr} {osl : Array (Option Value)}
    (lk : K.lookup f = some ⟨oc, od, .func (PySem.W.fnOf x qual (defArgs st) (defBody st) (defScope st) .none kV doc pm an cdv ct), osl⟩) (hcd : PySem.W.codeIn K cdv qual = true) (S : FnScope N ps (defScope st))
    (hw : ∀ cs q e, cs.length = ps.length → fs cs q e → wb ⟨fun τ => Keeps cs τ ∧ q .non (ends cs τ), fun d τ => Keeps cs τ ∧ q d (ends cs τ), fun _ _ => False, fun _ => False, fun _ => False, fun x τ => Keeps cs τ ∧ e x (ends cs τ)⟩ (cs ++ List.replicate (N.length - ps.length) .any))
    (hb : ∀ (A : Around) (outer : List Env) (s : Shared) (H : Hp) (E : XK), Room k (A.deeper (envOfC qual (defScope st) s.heap.objs.size f cdv)) → Takes (cxOf (L2.CX P w) P w K mg base N qual (defScope st) f cdv A outer s H E) (fun cls d _ H => E cls d H) →
      ∃ t, PSs (cxOf (L2.CX P w) P w K mg base N qual (defScope st) f cdv A outer s H E) (defBody st) t ∧ DS K (fun cls d _ H => E cls d H) t wb) :
    FnOk P w K mg base (L2.CX P w) (k + 1) f (PySem.W.fnOf x qual (defArgs st) (defBody st) (defScope st) .none kV doc pm an cdv ct) ps (spOf K ps.length fs) := by
  refine fn_of lk hcd S (fun vs H Q E h => h.1) (fun A outer s H vs Q E hr h => ?_)
  obtain ⟨t, h1, h2⟩ := hb A outer s H E hr (takes_of rfl rfl rfl rfl)
  refine ⟨t, h1, ?_⟩
  obtain ⟨hl, F, cs, q, e, S0, hf, kq, ke⟩ := h
  obtain ⟨lcs, S1⟩ := s_ok (N := N) S0 hl
  refine h2.run _ H _ F _ _ S1 (hw cs q e lcs hf) ⟨fun σ' τ' F' H' u ⟨k, hq⟩ => ?_, fun _ _ _ _ _ z => z, fun _ _ _ _ _ z => z, fun v d τ' F' H' u r ⟨k, hq⟩ => ?_, fun σ' x cls dx τ' F' H' u r ⟨k, hq⟩ => ?_, ?_⟩
  · exact kq .non .non _ F' H' u.ext.app u.ok.sub (cs_ok k u.ok.own u.ok.inj u.grow.app) .non hq
  · exact kq v d _ F' H' u.ext.app u.sub (cs_ok k u.own u.inj u.grow.app) r hq
  · exact ke x cls dx _ F' H' u.ext.app u.ok.sub (cs_ok k u.ok.own u.ok.inj u.grow.app) r hq
  · exact fun _ _ _ _ _ _ _ _ z => False.elim z
end L3

/-! ## lcm, max -/
namespace L3
open PySem PySem.Spec PyProof.Rows L2
variable [TB : TabT]
section
variable {K : PySem.W.Frag} {W : WX}
def rLcm : List V → Hp → VK → Prop := fun vs H Q => ∃ a b : Int, vs = [.int a, .int b] ∧ a.natAbs < 2 ^ 64 ∧ b.natAbs < 2 ^ 64 ∧ Q (.int ((Nat.lcm a.natAbs b.natAbs : Nat) : Int)) H
theorem cr_lcm {X : Cx} : CallR X (.builtin "math.lcm") rLcm := by
  intro pins s σ H vs us Q I r h
  obtain ⟨a, b, rfl, ha, hb, q⟩ := h
  obtain ⟨t, u, rfl⟩ := Vals.int2 r
  exact PySem.W.mc_lcm ha hb fun _ => ⟨.int _, H, I.tok (s.toks + 1), ⟨s.toks, rfl⟩, q⟩
def gLcm : List D → (D → Prop) → Prop := fun ds q => ∃ i j : Int, ds = [.int i, .int j] ∧ i.natAbs < 2 ^ 64 ∧ j.natAbs < 2 ^ 64 ∧ q (.int ((Nat.lcm i.natAbs j.natAbs : Nat) : Int))
theorem o_lcm : OpN K rLcm gLcm := by
  rintro F H xs ds q Q s r ⟨i, j, rfl, hi, hj, hq⟩ k
  obtain ⟨v, v', rfl, r1, r2⟩ := r.two
  exact ⟨i, j, by rw [r1.int_of, r2.int_of], hi, hj, k _ _ F H (.refl _ _ _) s (.int _) hq⟩
def mxI (a b : Int) : Int := if b > a then b else a
def rMax2 : List V → Hp → VK → Prop := fun xs H Q => ∃ i j, xs = [V.int i, V.int j] ∧ Q (V.int (if j > i then j else i)) H
def gMax2 : List D → (D → Prop) → Prop := fun ds q => ∃ i j : Int, ds = [.int i, .int j] ∧ q (.int (mxI i j))
theorem o_max2 : OpN K rMax2 gMax2 := by
  rintro F H xs ds q Q s r ⟨i, j, rfl, hq⟩ k
  obtain ⟨v, v', rfl, r1, r2⟩ := r.two
  exact ⟨i, j, by rw [r1.int_of, r2.int_of], k _ _ F H (.refl _ _ _) s (.int _) hq⟩
theorem nuMax3_int (a b c : Int) : nuMax3 (.int a) (.int b) (.int c) = some (.int (mxI (mxI a b) c)) := by
  have two : ∀ x y : Int, nuMax2 (.int x) (.int y) = some (.int (mxI x y)) := fun x y => by
    show Option.map (fun c => if c = true then V.int y else V.int x) (nuLt (.int x) (.int y)) = _
    have : nuLt (.int x) (.int y) = some (decide (x < y)) := rfl
    rw [this]
    unfold mxI
    by_cases h : x < y
    · simp [h]
    · simp [h]
  show (nuMax2 (.int a) (.int b)).bind _ = _
  rw [two]
  exact two _ _
def gMax3 : List D → (D → Prop) → Prop := fun ds q => ∃ i j l : Int, ds = [.int i, .int j, .int l] ∧ q (.int (mxI (mxI i j) l))
theorem o_max3 : OpN K (rNuC3 nuMax3) gMax3 := by
  rintro F H xs ds q Q s r ⟨i, j, l, rfl, hq⟩ k
  cases r with
  | cons r1 r =>
    obtain ⟨v, v', rfl, r2, r3⟩ := r.two
    exact ⟨.int i, .int j, .int l, _, by rw [r1.int_of, r2.int_of, r3.int_of], nuMax3_int i j l, k _ _ F H (.refl _ _ _) s (.int _) hq⟩
end
end L3

/-! ## instances as data, errors with a field -/
namespace L3
open PySem PySem.Spec PyProof.Rows L2
variable [TB : TabT]
/-- an error that is made, and a field of it read -/
def tMkF (K : PySem.W.Frag) (t : L2.St → Hp → XK → Prop) (f : Str) : TE := fun σ H Q => t σ H fun cls d H1 => ∃ (C dd : Addr) (fs : List (Str × V)) (v : V), cls = .ref C ∧ d = some dd ∧ H1 dd = some (.xd fs) ∧ L2.XfC K C ∧ PySem.W.findIn K (.ref C) f = some none ∧ fs.lookup f = some v ∧ Q v H1
theorem pe_mkf {X : Cx} {e : Expr} {t : L2.St → Hp → XK → Prop} {n : Str} {pos : Pos} (he : PMk X e t) (hb : attributeBase e n X.env (eval e X.env) = eval e X.env := by rfl) : PE X (.Attribute e n pos) (tMkF X.K t n) := by
  refine ⟨fun pins s σ H Q I h => ?_⟩
  refine attr_of hb (thn (he pins s σ H _ I h) fun u s1 hh => ?_)
  obtain ⟨a, oe, vs, sI, H', cls, d, rfl, J, k, hne, ha, hz, hd, h1, na, os, ag, r, q⟩ := hh
  obtain ⟨C, dd, fs, v, rfl, rfl, ea, T, hno, l, q⟩ := q
  have J2 : Inv X pins σ H' s1 := J.call' (ch := []) os (Un.kept k) (J.hok.kept k) ag (fun b z => absurd z (by simp))
  have hx : ObjOk X.prog X.w H' s1.heap dd (.xd fs) := J2.hok dd _ ea
  obtain ⟨mA, hns, hr⟩ := hx
  obtain ⟨od, ho, hl⟩ := lookIn_ns hns
  obtain ⟨u, hu, ru⟩ := RelO.some_of (v := v) (o := mA n) (by rw [← l]; exact hr n)
  have I4 : PySem.W.InstAt s1.heap a oe C (some od) := ⟨ha, hz.1, by unfold PySem.W.notCls; rw [hd] <;> rfl, by rw [hz.2]; exact ho⟩
  exact HandSPX.exc_get J2.kIn I4 T.ga T.gg T.exC (PySem.W.findObj_own T.hdC hno rfl (by rw [hl, hu])) (handed_of ru) ⟨v, H', J2.tok _, ru, q⟩
/-- isinstance(e, c), e the caught error, which has a dict -/
def rIsE1 (K : PySem.W.Frag) (D a : Addr) (d : Option Addr) : List V → Hp → VK → Prop := fun xs H Q => ∃ (c : V) (cv : Value) (b : Bool) (dd : Addr) (fs : List (Str × V)), xs = [.ref a, c] ∧ (∀ u, RelV c u → u = cv) ∧ PySem.W.kitOne K (.ref D) cv = some b ∧ d = some dd ∧ H dd = some (.xd fs) ∧ Q (.bl b) H
theorem call_isE1 {X : Cx} {a D : Addr} {d : Option Addr} {oe : Obj} {pn : List (Addr × Obj)} (C : ExcC X.K D) (hz : Zc (.ref D) d oe) (hf : ∃ vs, oe.data = .fields vs) : CallR (X.suite a ((a, oe) :: pn)) (.builtin "isinstance") (rIsE1 X.K D a d) := by
  intro pins s σ H xs us Q I r h
  obtain ⟨c, cv, b, dd, fs, rfl, hcv, e, rfl, hdd, q⟩ := h
  cases r with
  | cons rx rr =>
    cases rr with
    | cons rt rr =>
      cases rr
      cases rx
      have ec := hcv _ rt
      subst ec
      obtain ⟨hget, _⟩ := I.pin (a, oe) (List.mem_append.mpr (.inl List.mem_cons_self))
      obtain ⟨vs, hv⟩ := hf
      have hx : ObjOk X.prog X.w H s.heap dd (.xd fs) := I.hok dd _ hdd
      obtain ⟨mA, hns, hr⟩ := hx
      obtain ⟨od, ho, hl⟩ := lookIn_ns hns
      have J : PySem.W.InstAt s.heap a oe D (some od) := ⟨hget, hz.1, by unfold PySem.W.notCls; rw [hv] <;> rfl, by rw [hz.2]; exact ho⟩
      have hcl : (PySem.W.clsIn X.K D).isSome = true := by
        obtain ⟨cd, hc, _⟩ := PySem.W.any_some C.hd
        rw [hc]
        rfl
      exact PySem.W.kia_one (PySem.W.kitx_exc hcl C.hg C.hk C.hs C.ha C.hn C.ht C.hm) I.kIn J e (fun z => nomatch z) fun tk => ⟨.bl b, H, I.kept (t' := tk) fun _ _ z => z, rfl, q⟩
section
variable {K : PySem.W.Frag} {W : WX}
theorem FRep.lookup {F : Hp} {f : Str} {d : D} : ∀ {vs : List (Str × V)} {ds : List (Str × D)}, FRep K F vs ds → ds.lookup f = some d → ∃ v, vs.lookup f = some v ∧ Rep K F v d
  | _, _, .nil, e => by simp at e
  | _, _, .cons (f := g) (v := u) r t, e => by
    unfold List.lookup at e ⊢
    cases h : f == g with
    | true =>
      rw [h] at e
      cases e
      exact ⟨u, rfl, r⟩
    | false =>
      rw [h] at e
      exact FRep.lookup t e
/-- e.f of an instance -/
def wAttr (C : Addr) (f : Str) (we : EW) : EW := fun τ q e => we τ (fun d τ' => ∃ gs v, d = .ins C gs ∧ gs.lookup f = some v ∧ q v τ') e
theorem de_fld {C : Addr} {f : Str} {t : TE} {w : EW} (hc : Cls K C) (hn : NoAttr K C f) (h : DE K W t w) : DE K W (tFld K t f) (wAttr C f w) := by
  refine ⟨fun σ H τ F Q q e S hw k x => h.run σ H τ F _ _ e S hw (fun v d τ1 F1 H1 t1 r1 ⟨gs, y, ed, el, hq⟩ => ?_) x⟩
  subst ed
  cases r1 with
  | ins ha hr =>
    obtain ⟨u, e1, r2⟩ := hr.lookup el
    exact ⟨_, _, _, _, u, rfl, t1.ok.sub _ _ ha, hc, hn, e1, k u y τ1 F1 H1 t1 r2 hq⟩
/-- an instance that is made, and is data from then on -/
def wMkI (C : Addr) (n : Nat) (fs : FS) (wa : AW) : EW := fun τ q e => wa τ (fun ds τ' => ds.length = n ∧ ∀ x dx, fs (.own x (.obj C dx []) :: ds.map .dat) (fun d cs' => d = .non ∧ ∃ gs, cs'[0]? = some (.own x (.obj C dx gs)) ∧ q (.ins C gs) τ') (fun y _ => e y τ')) e
theorem passF {X : Cx} {E : XK} (tk : Takes X (fun cls d _ H => E cls d H)) : Passes (L2.CX X.prog X.w) X E := fun pins σ H s e s' I c => passAt tk σ pins H s e s' I c
theorem ext_make {F' H' F3 H3 : Hp} {a dx C : Addr} {cs : List Cell} (ha : H' a = none) (hdx : H' dx = none) (hne : dx ≠ a) (own0 : ∀ p, IsOwn cs p → p = a) (x3 : Ext cs F' (upd (upd H' dx (.own a)) a (.ins C dx [])) F3 H3) : Ext [] F' H' F3 H3 := by
  have ha1 : (upd H' dx (.own a)) a = none := by rw [upd_ne (fun z => hne z.symm)]; exact ha
  have fr : ∀ b, Fr (upd (upd H' dx (.own a)) a (.ins C dx [])) b → Fr H' b := fun b y => by
    by_cases n1 : b = a
    · rw [n1]; exact fr_none ha
    · by_cases n2 : b = dx
      · rw [n2]; exact fr_none hdx
      · exact fun o' e' => y o' (by rw [upd_ne n1, upd_ne n2]; exact e')
  refine ⟨x3.f, fun b o e => ?_, fun b o e _ nt => ?_, fun b e => fr b (x3.there b e), fun z => x3.tabs ⟨tabs_new ha1 (tabs_new hdx z.1), z.2⟩⟩
  · rcases x3.new b o e with y | y | y
    · exact .inl y
    · exact .inr (.inl (fr b y))
    · rw [own0 b y]; exact .inr (.inl (fr_none ha))
  · have n1 : b ≠ a := fun z => by rw [z, ha] at e; cases e
    have n2 : b ≠ dx := fun z => by rw [z, hdx] at e; cases e
    exact x3.keep b o (by rw [upd_ne n1, upd_ne n2]; exact e) (fun y => n1 (own0 b y)) nt
theorem de_makeI {C : Addr} {n : Nat} {fs : FS} {E : XK} {t : TA} {w : AW} (h : DA K (fun cls d _ H => E cls d H) t w) : DE K (fun cls d _ H => E cls d H) (tMake C (spOf K (n + 1) fs) [] E t) (wMkI C n fs w) := by
  refine ⟨fun σ H τ F Q q e S hw k x => h.run σ H τ F _ _ e S hw (fun vs ds τ' F' H' t' r ⟨hl, hf⟩ a dx ha hdx hne => ?_) x⟩
  have fa := new_not_data t'.ok ha
  have fdx := new_not_data t'.ok hdx
  have ha1 : (upd H' dx (.own a)) a = none := by rw [upd_ne (fun z => hne z.symm)]; exact ha
  have s2 : Same F' (upd (upd H' dx (.own a)) a (.ins C dx [])) := fun b o e => by
    rw [upd_ne (fun z => by rw [z, fa] at e; cases e), upd_ne (fun z => by rw [z, fdx] at e; cases e)]
    exact t'.ok.sub b o e
  have own1 : ∀ p, IsOwn (Cell.own a (.obj C dx []) :: ds.map Cell.dat) p → p = a := fun p y => mk_isOwn y
  refine ⟨by simp [r.length, hl], F', .own a (.obj C dx []) :: ds.map .dat, _, _, ⟨⟨tabs_new ha1 (tabs_new hdx t'.ok.tabs.1), t'.ok.tabs.2⟩, s2, by simp [r.length], fun i s cc h1 h2 => ?_, mk_own fa upd_same, mk_inj⟩, hf a dx, fun v d cs' F3 H3 x3 s3 c3 r3 ⟨ed, gs, e0, hq⟩ => ?_, fun y cls dx' cs' F3 H3 x3 s3 c3 r3 hq => ?_⟩
  · cases i with
    | zero => cases h1; cases h2; exact rfl
    | succ i => exact reps_slots r i s cc (by simpa only [List.map_cons, List.getElem?_cons_succ, List.append_nil] using h1) (by simpa only [List.getElem?_cons_succ] using h2)
  · subst ed
    refine ⟨by cases r3; rfl, ?_⟩
    obtain ⟨f3, ob, h3, rep, _⟩ := c3.own 0 _ e0
    cases rep with
    | @obj _ _ us _ rep =>
      have e5 := ext_make ha hdx hne own1 x3
      have s6 : Same F3 (upd F3 a (.ins C dx us)) := fun b o e => by rw [upd_ne (fun z => by rw [z, f3] at e; cases e)]; exact e
      have e4 : Ext [] F' H' (upd F3 a (.ins C dx us)) H3 := by
        refine ⟨fun b o e => s6 b o (e5.f b o e), fun b o e => ?_, e5.keep, e5.there, fun z => ⟨(e5.tabs z).1, nt_upd nt_ins (e5.tabs z).2⟩⟩
        by_cases z : b = a
        · rw [z]; exact .inr (.inl (fr_none ha))
        · rw [upd_ne z] at e
          exact e5.new b o e
      have sub4 : Same (upd F3 a (.ins C dx us)) H3 := fun b o e => by
        by_cases z : b = a
        · subst z; rw [upd_same] at e; rw [h3]; exact e
        · rw [upd_ne z] at e; exact s3 b o e
      exact k _ _ τ' _ H3 (t'.trans (.small t'.ok e4 sub4)) (.ins upd_same (rep.mono s6)) hq
  · exact x y cls dx' τ' F3 H3 (t'.trans (.small t'.ok (ext_make ha hdx hne own1 x3) s3)) r3 hq
/-! ### an error with one field -/
def spX1 (K : PySem.W.Frag) (C : Addr) (f : Str) : Sp := fun vs H Q _ => ∃ (a : Addr) (v : V), vs = [.ref a, v] ∧ H a = some (exo a C none) ∧ ∀ dx, H dx = none → dx ≠ a → Q .non (upd (upd H dx (exd dx [(f, v)])) a (exo a C (some dx)))
theorem exc1_ok {P : Program} {w : World} {mg : Str → Option Value} {base : Heap} {x qual f : Str} {st : Stmt} {fa C : Addr} {fd : FuncData} {p1 p2 p3 p4 : Pos} (Fn : Fun K x qual st fa fd) (S : FnScope ["self", f] ["self", f] (defScope st))
    (hb : defBody st = [.Assign [.Attribute (.Name "self" p1) f p2] (.Name f p3) p4]) (hf : ("self" : Str) ≠ f)
    (hs : ∀ X : Cx, swapsWith (.Name f p3) (some (.Attribute (.Name "self" p1) f p2)) p4.line X.env = pure false) (T : OexC K C) (hno : PySem.W.findIn K (.ref C) f = some none)
    (hp : ∀ (cdv : Value) (A : Around) (outer : List Env) (s : Shared) (H : Hp) (E : XK), PE (cxOf (L2.CX P w) P w K mg base ["self", f] qual (defScope st) fa cdv A outer s H E) (.Name "self" p1) (tVar 0) ∧ PE (cxOf (L2.CX P w) P w K mg base ["self", f] qual (defScope st) fa cdv A outer s H E) (.Name f p3) (tVar 1)) :
    FnOk P w K mg base (L2.CX P w) 1 fa fd ["self", f] (spX1 K C f) := by
  refine Fn.okX S (fun vs H Q E ⟨a, v, e, _⟩ => by rw [e]; rfl) (fun cdv A outer s H vs Q E hr h => ?_)
  obtain ⟨h0, h1⟩ := hp cdv A outer s H E
  obtain ⟨a, v, rfl, ha, hq⟩ := h
  rw [hb]
  refine ⟨_, pss_one (ps_ost (hs := hs _) h0 h1), ?_⟩
  exact ⟨v, rfl, .ref a, rfl, a, C, rfl, T, hno, .inl ⟨ha, fun dx h1 h2 => hq dx h1 h2⟩⟩
def wRaise1 (C : Addr) (f : Str) (we : EW) : SW := fun E τ => we τ (fun d τ' => E.ex ⟨C, [(f, d)]⟩ τ') E.ex
theorem del_back {H1 : Hp} {a d C : Addr} {fs : List (Str × V)} (ha : H1 a = none) (hda : d ≠ a) : upd (del (upd (upd (upd H1 a (exo a C none)) d (exd d fs)) a (exo a C (some d))) a) d (.xd fs) = upd H1 d (.xd fs) := by
  funext b
  by_cases h1 : b = d
  · rw [h1, upd_same, upd_same]
  · rw [upd_ne h1, upd_ne h1]
    by_cases h2 : b = a
    · rw [h2, del_same, ha]
    · rw [del_ne h2, upd_ne h2, upd_ne h1, upd_ne h2]
/-- what stands behind the making of such an error -/
theorem mk1_run {C : Addr} {f : Str} {v : V} {d : D} {F H : Hp} {σ : L2.St} {τ : List Cell} {Q : XK} (S : SOk K F H σ τ) (r : Rep K F v d)
    (h : ∀ dx, To K F H σ τ F (upd H dx (.xd [(f, v)])) τ → Q (.ref C) (some dx) (upd H dx (.xd [(f, v)]))) :
    [v].length ≤ 1000 ∧ ∀ a, H a = none → spX1 K C f (.ref a :: ([v] ++ [])) (upd H a (exo a C none))
      (fun u H2 => u = .non ∧ ∃ (d : Addr) (fs : List (Str × V)), H2 a = some (exo a C (some d)) ∧ H2 d = some (exd d fs) ∧ H d = none ∧ Q (.ref C) (some d) (upd (del H2 a) d (.xd fs))) (fun _ _ _ => False) := by
  refine ⟨by simp, fun a ha => ⟨a, v, rfl, upd_same, fun dx hd hne => ⟨rfl, dx, [(f, v)], upd_same, ?_, ?_, ?_⟩⟩⟩
  · rw [upd_ne hne, upd_same]
  · rw [upd_ne hne] at hd; exact hd
  · rw [del_back ha hne]
    rw [upd_ne hne] at hd
    refine h dx (.small S (Ext.laid0 hd) fun b o e => ?_)
    rw [upd_ne (fun z => by rw [z, new_not_data S hd] at e; cases e)]
    exact S.sub b o e
theorem ds_raise1 {C : Addr} {f : Str} {t : TE} {w : EW} (h : DE K W t w) : DS K W (fun _ σ H => tMkO C (spX1 K C f) [] (tCons t tNil) σ H fun cls d H' => W cls d σ H') (wRaise1 C f w) := by
  refine ⟨fun σ H τ F Dn E S hw o => h.run σ H τ F _ _ E.ex S hw (fun v d τ1 F1 H1 t1 r1 hq => ?_) o.xto⟩
  refine mk1_run (C := C) (f := f) (Q := fun cls d H' => W cls d σ H') t1.ok r1 fun dx t2 => ?_
  exact o.ex σ ⟨C, [(f, d)]⟩ _ (some dx) τ1 F1 _ (t1.trans t2) ⟨rfl, .inr ⟨by simp, dx, _, rfl, upd_same, .cons r1 .nil⟩⟩ hq
/-- the field of an error that is made -/
def wMkF (f : Str) (we : EW) : EW := fun τ q e => we τ q e
theorem de_mkf {C : Addr} {f : Str} {t : TE} {w : EW} (T : L2.XfC K C) (hno : PySem.W.findIn K (.ref C) f = some none) (h : DE K W t w) : DE K W (tMkF K (tMkO C (spX1 K C f) [] (tCons t tNil)) f) (wMkF f w) := by
  refine ⟨fun σ H τ F Q q e S hw k x => h.run σ H τ F _ _ e S hw (fun v d τ1 F1 H1 t1 r1 hq => ?_) x⟩
  refine mk1_run (C := C) (f := f) (Q := fun cls d H1 => ∃ (C dd : Addr) (fs : List (Str × V)) (v : V), cls = .ref C ∧ d = some dd ∧ H1 dd = some (.xd fs) ∧ L2.XfC K C ∧ PySem.W.findIn K (.ref C) f = some none ∧ fs.lookup f = some v ∧ Q v H1) t1.ok r1 fun dx t2 => ?_
  refine ⟨C, dx, _, v, rfl, rfl, upd_same, T, hno, by simp [List.lookup], ?_⟩
  exact k v d τ1 F1 _ (t1.trans t2) r1 hq
/-! ### what a def does that calls what it is handed, and an error with a field comes -/
def toldE1 (K : PySem.W.Frag) (f : Str) (tell : Addr → List D → Prop) (Q : VK) : XK := fun cls d H' => ∃ (C dd : Addr) (vs : List (Str × V)) (v : V) (bs : List Bool), cls = .ref C ∧ d = some dd ∧ H' dd = some (.xd vs) ∧ vs.lookup f = some v ∧ tell C (bs.map D.bl) ∧
  ∀ l p, H' l = none → (upd H' l (.lst (bs.map V.bl))) p = none → Q (.ref p) (upd (upd H' l (.lst (bs.map V.bl))) p (.tup [.str "refused", .ref l, v]))
def toldTT1 (K : PySem.W.Frag) (f : Str) (tell : Addr → List D → Prop) : (XK → Hp → VK → Prop) → Hp → VK → Prop := fun tl H Q => ∀ (E : XK) (Q' : VK),
  (∀ cls d H', toldE1 K f tell Q cls d H' → E cls d H') → (∀ v H', (∀ p, H' p = none → Q (.ref p) (upd H' p (.tup [.str "told", v]))) → Q' v H') → tl E H Q'
def wTold1 (f : Str) (tell : Addr → List D → Prop) (w : EW) : EW := fun τ q _ => w τ (fun d τ' => q (.tup [.str "told", d]) τ') (fun x τ' => ∃ v, x.fs = [(f, v)] ∧ ∃ bs : List Bool, tell x.cls (bs.map D.bl) ∧ q (.tup [.str "refused", .lst (bs.map D.bl), v]) τ')
theorem de_told1 {f : Str} {tell : Addr → List D → Prop} {t : XK → TE} {w : EW} (h : ∀ E : XK, DE K (fun cls d _ H => E cls d H) (t E) w) : DE K W (LamX.tLam TB.T (toldTT1 K f tell) t) (wTold1 f tell w) := by
  refine ⟨fun σ H τ F Q q e S hw k x => ⟨S.tabs.1, fun H1 hx ht E Q' hE hQ => ?_⟩⟩
  have s1 : Same F H1 := fun a o e => hx a o (S.sub a o e) (S.tabs.2 a o e)
  have x1 : Ext [] F H F H1 := ⟨Same.refl F, fun _ _ e => .inl e, fun a o e _ nt => hx a o e nt, fun a fr o e nt => fr o (hx a o e nt) nt, fun g => ⟨ht, g.2⟩⟩
  have t1 : To K F H σ τ F H1 τ := .small S x1 s1
  refine (h E).run σ H1 τ F Q' _ _ t1.ok hw (fun v d τ' F' H' t' r hq => hQ v H' fun p hp => ?_) (fun y cls dx τ' F' H' t' r hq => hE cls dx H' ?_)
  · obtain ⟨x1, x2⟩ := new_ext (o := .tup [.str "told", v]) t'.ok.sub hp
    exact k _ (.tup [.str "told", d]) τ' _ _ ((t1.trans t').trans (.small t'.ok x1 x2)) (.tup (.inl (.inl upd_same)) (.cons (.str _) (.cons (r.mono (new_same t'.ok.sub hp)) .nil))) hq
  · obtain ⟨d, hf, bs, ht, hq⟩ := hq
    rcases r.f with z | ⟨_, dd, vs, rfl, hd, fr⟩
    · rw [hf] at z; cases z.1
    rw [hf] at fr
    obtain ⟨v, e1, rv⟩ := fr.lookup (f := f) (d := d) (by simp [List.lookup])
    refine ⟨y.cls, dd, vs, v, bs, r.c, rfl, hd, e1, ht, fun l p hl hp => ?_⟩
    obtain ⟨x1, x2⟩ := new_ext (o := .lst (bs.map V.bl)) t'.ok.sub hl
    have sL := new_same (o := .lst (bs.map V.bl)) t'.ok.sub hl
    have t2 := (t1.trans t').trans (.small t'.ok x1 x2)
    obtain ⟨x3, x4⟩ := new_ext (o := .tup [.str "refused", .ref l, v]) x2 hp
    have sF := new_same (o := .tup [.str "refused", .ref l, v]) x2 hp
    exact k _ (.tup [.str "refused", .lst (bs.map D.bl), d]) τ' _ _ (t2.trans (.small t2.ok x3 x4)) (.tup (.inl (.inl upd_same)) (.cons (.str _) (.cons (.lst (sF _ _ upd_same) reps_bls) (.cons ((rv.mono sL).mono sF) .nil)))) hq
end
theorem pe_toldG {TT : (XK → Hp → VK → Prop) → Hp → VK → Prop} {X : Cx} {st : Stmt} {x a : Str} {g c P : Addr} {fd : FuncData} {k : Nat} {Ng : List Str} {params : Arguments} {body : Expr} {scope : Scope} {t : XK → TE} {p lpos pos : Pos}
    (F : Fun X.K x x st g fd) (hb : L2.Binds X.K fd [a] []) (hg : Gl X x) (hm : X.mg x = some (.ref g)) (Sg : FnScope Ng [a] (defScope st)) (hNg : Ng[0]? = some a) (hva : Vis (defScope st) a)
    (hG : ∀ cdv, LamX.GivesTo X Ng x (defScope st) g cdv (defBody st) a (X.env.qual ++ "<lambda>") TT) (hT : LamX.TabB X.base X.mg c P) (hcode : X.env.code = .ref c)
    (hmT : (P, X.env.qual ++ Str.ofString "<lambda>") ∈ TB.T) (hu : ∀ p ∈ TB.T, p.1 = P → p.2 = X.env.qual ++ Str.ofString "<lambda>") (hr : Room (k + 2) X.A) (L : LamX.LamS X.env.scope scope) (hdef : defaultsOf params X.env = ([], []))
    (hbind : ∀ (q : Str) (cl : List (Str × Addr)) (pm cv ctv : Value), bindArgs (PySem.W.kla_fn (Str.ofString "<lambda>") q params body scope cl pm cv ctv) {} = pure [])
    (hbody : ∀ (A : Around) (outer : List Env) (s : Shared) (H : Hp) (E : XK) (f c' : Addr), Room k (A.deeper (LamX.lamEnv X scope s.heap.objs.size f c')) → PE (LamX.lamCx X A outer s H E scope f c') body (t E))
    (h1 : (x == Str.ofString "__debug__") = false := by decide) (h2 : (a == Str.ofString "__debug__") = false := by decide) (h3 : (a == Str.ofString "__classdict__") = false := by decide) :
    PE X (.Call (.Name x p) [.Lambda params body scope lpos] [] pos) (LamX.tLam TB.T TT t) := by
  obtain ⟨oc, od, kV, doc, pm, an, cdv, ct, osl, rfl, lk, hcg⟩ := F.ex
  exact LamX.pe_lamcall hg hm F.kp lk hcg hb Sg hNg hva (hG cdv) hT hcode hmT hu hr L hdef hbind hbody h1 h2 h3
/-! ### a chain of three comparisons -/
def tChain3 (r r' r'' : R2) (ta tb tc td : TE) : TE := fun σ H Q => ta σ H fun x H1 => tb σ H1 fun y H2 => r x y H2 fun z H3 => ∃ k, z = .bl k ∧
  (if k = true then tc σ H3 fun w' H4 => r' y w' H4 fun z' H5 => ∃ k', z' = .bl k' ∧ (if k' = true then td σ H5 fun w2 H6 => r'' w' w2 H6 Q else Q (.bl false) H5) else Q (.bl false) H3)
theorem pe_chain3 {X : Cx} {a b c d : Expr} {ta tb tc td : TE} {pos : Pos} {op op' op'' : CmpOp} {r r' r'' : R2} (ho : OpR X (compareOp op) r) (ho' : OpR X (compareOp op') r') (ho'' : OpR X (compareOp op'') r'') (ha : PE X a ta) (hb : PE X b tb) (hc : PE X c tc) (hd : PE X d td)
    (hm : lastMarks [op, op', op''] [b, c, d] = false := by with_unfolding_all rfl) : PE X (.Compare a [op, op', op''] [b, c, d] pos) (tChain3 r r' r'' ta tb tc td) := by
  refine ⟨fun pins s σ H Q I h => ?_⟩
  refine Compare_chain (thn (ha.run pins s σ H _ I h) fun v s1 ⟨x, H1, I1, r1, q1⟩ => chain_link (thn (hb.run pins s1 σ H1 _ I1 q1) fun u s2 ⟨y, H2, I2, r2, q2⟩ =>
    thn (ho pins s2 σ H2 x y v u _ I2 r1 r2 q2) fun d s3 ⟨z, H3, I3, r3, k, e, q3⟩ => ?_)) hm
  subst e
  cases r3
  refine wpAny_truthy_bool ?_
  cases k with
  | false => exact ite_ff ⟨.bl false, H3, I3, rfl, q3⟩
  | true =>
    refine ite_tt (chain_link (thn (hc.run pins s3 σ H3 _ I3 q3) fun w' s4 ⟨z', H4, I4, r4, q4⟩ => thn (ho' pins s4 σ H4 y z' u w' _ I4 r2 r4 q4) fun d' s5 ⟨z2, H5, I5, r5, k2, e2, q5⟩ => ?_))
    subst e2
    cases r5
    refine wpAny_truthy_bool ?_
    cases k2 with
    | false => exact ite_ff ⟨.bl false, H5, I5, rfl, q5⟩
    | true => exact ite_tt (chain_last (thn (hd.run pins s5 σ H5 _ I5 q5) fun w2 s6 ⟨z3, H6, I6, r6, q6⟩ => ho'' pins s6 σ H6 z' z3 w' w2 Q I6 r4 r6 q6))
section
variable {K : PySem.W.Frag} {W : WX}
def wChain3 (g g' g'' : D → D → (D → Prop) → Prop) (wa wb wc wd : EW) : EW := fun τ q e => wa τ (fun d1 τ1 => wb τ1 (fun d2 τ2 => g d1 d2 fun d => ∃ b, d = .bl b ∧
  (b = true → wc τ2 (fun d3 τ3 => g' d2 d3 fun d => ∃ b', d = .bl b' ∧ (b' = true → wd τ3 (fun d4 τ4 => g'' d3 d4 fun d => q d τ4) e) ∧ (b' = false → q (.bl false) τ3)) e) ∧ (b = false → q (.bl false) τ2)) e) e
theorem de_chain3 {r r' r'' : R2} {g g' g'' : D → D → (D → Prop) → Prop} {ta tb tc td : TE} {wa wb wc wd : EW} (o : Op2 K r g) (o' : Op2 K r' g') (o'' : Op2 K r'' g'') (ha : DE K W ta wa) (hb : DE K W tb wb) (hc : DE K W tc wc) (hd : DE K W td wd) : DE K W (tChain3 r r' r'' ta tb tc td) (wChain3 g g' g'' wa wb wc wd) := by
  refine ⟨fun σ H τ F Q q e S h k x => ?_⟩
  refine ha.run σ H τ F _ _ e S h (fun v1 d1 τ1 F1 H1 t1 r1 h1 => ?_) x
  refine hb.run σ H1 τ1 F1 _ _ e t1.ok h1 (fun v2 d2 τ2 F2 H2 t2 r2 h2 => ?_) (x.of t1)
  refine o F2 H2 v1 v2 d1 d2 _ _ t2.ok.sub (r1.mono t2.ext.f) r2 h2 fun v d F3 H3 e3 s3 r3 ⟨b, eb, h3, h4⟩ => ?_
  subst eb
  have t3 : To K F2 H2 σ τ2 F3 H3 τ2 := .small t2.ok e3 s3
  have t03 := (t1.trans t2).trans t3
  refine ⟨b, r3.bl_of, ?_⟩
  cases b with
  | false => exact iteF (k _ _ τ2 F3 H3 t03 (.bl false) (h4 rfl))
  | true =>
    refine iteT ?_
    refine hc.run σ H3 τ2 F3 _ _ e t3.ok (h3 rfl) (fun v4 d4 τ4 F4 H4 t4 r4 h5 => ?_) (x.of t03)
    refine o' F4 H4 v2 v4 d2 d4 _ _ t4.ok.sub (r2.mono ((e3.f).trans t4.ext.f)) r4 h5 fun v d F5 H5 e5 s5 r5 ⟨b', eb', h6, h7⟩ => ?_
    subst eb'
    have t5 : To K F4 H4 σ τ4 F5 H5 τ4 := .small t4.ok e5 s5
    have t05 := (t03.trans t4).trans t5
    refine ⟨b', r5.bl_of, ?_⟩
    cases b' with
    | false => exact iteF (k _ _ τ4 F5 H5 t05 (.bl false) (h7 rfl))
    | true =>
      refine iteT ?_
      refine hd.run σ H5 τ4 F5 _ _ e t5.ok (h6 rfl) (fun v6 d6 τ6 F6 H6 t6 r6 h8 => ?_) (x.of t05)
      refine o'' F6 H6 v4 v6 d4 d6 _ Q t6.ok.sub (r4.mono ((e5.f).trans t6.ext.f)) r6 h8 fun v d F7 H7 e7 s7 r7 h9 => ?_
      exact k v d τ6 F7 H7 ((t05.trans t6).trans (.small t6.ok e7 s7)) r7 h9
end
end L3

/-! ## tuples: + and slices of any kind, order of pairs; truth of a sequence -/
namespace L3
open PySem PySem.Spec PyProof.Rows L2
variable [TB : TabT]
section
variable {K : PySem.W.Frag} {W : WX}
def gCatA : D → D → (D → Prop) → Prop := fun x y q => ∃ as bs, x = .tup as ∧ y = .tup bs ∧ as.length + bs.length ≤ 1000 ∧ q (.tup (as ++ bs))
theorem Reps.nil_l {F : Hp} {xs : List V} {ds : List D} (r : Reps K F xs ds) : xs = [] ↔ ds = [] := by
  cases r <;> simp
theorem o_catA : Op2 K (rCatA K) gCatA := by
  rintro F H x y d1 d2 q Q s r1 r2 ⟨as, bs, rfl, rfl, hl, hq⟩ k
  cases r1 with
  | @tup a xs _ h1 r1 =>
    cases r2 with
    | @tup b ys _ h2 r2 =>
      refine ⟨a, b, xs, ys, rfl, rfl, SqT_mono s h1, SqT_mono s h2, by rw [r1.length, r2.length]; exact Nat.le_of_lt (small1000 hl), fun z => ?_, fun _ z => ?_, fun z1 z2 p hp => ?_⟩
      · have e := r1.nil_l.mp z
        subst e
        exact k _ (.tup _) F H (.refl _ _ _) s (.tup h2 r2) hq
      · have e := r2.nil_l.mp z
        subst e
        rw [List.append_nil] at hq
        exact k _ (.tup _) F H (.refl _ _ _) s (.tup h1 r1) hq
      · obtain ⟨x1, x2⟩ := new_ext (o := .tup (xs ++ ys)) s hp
        exact k _ (.tup (as ++ bs)) _ _ x1 x2 (.tup (.inl (.inl upd_same)) ((r1.append r2).mono (new_same s hp))) hq
/-- t[lo:hi] of any kind -/
def wSlA (we : EW) (wl wh : OW) : EW := fun τ q e => we τ (fun d τ1 => wl τ1 (fun lo τ2 => wh τ2 (fun hi τ3 => ∃ es, d = .tup es ∧ q (.tup (cutDs es lo hi)) τ3) e) e) e
theorem cutDs_whole {α : Type} {xs : List α} {lo hi : Option Int} (h1 : HT.sIx xs.length 0 lo = 0) (h2 : HT.sIx xs.length xs.length hi = xs.length) : cutDs xs lo hi = xs := by
  unfold cutDs
  rw [h1, h2]
  simp
theorem de_slA {t : TE} {tl th : TO} {w : EW} {wl wh : OW} (h : DE K W t w) (hl : DO K W tl wl) (hh : DO K W th wh) : DE K W (tSl (L2.rSlA K) t tl th) (wSlA w wl wh) := by
  refine ⟨fun σ H τ F Q q e S hw k x => h.run σ H τ F _ _ e S hw (fun z d τ1 F1 H1 t1 r1 h1 => ?_) x⟩
  refine hl.run σ H1 τ1 F1 _ _ e t1.ok h1 (fun lo τ2 F2 H2 t2 h2 => ?_) (x.of t1)
  refine hh.run σ H2 τ2 F2 _ _ e t2.ok h2 (fun hi τ3 F3 H3 t3 h3 => ?_) (x.of (t1.trans t2))
  obtain ⟨es, rfl, hq⟩ := h3
  have r3 := (r1.mono t2.ext.f).mono t3.ext.f
  cases r3 with
  | @tup a xs _ hs r =>
    refine ⟨a, xs, rfl, SqT_mono t3.ok.sub hs, fun hw => ?_, fun hn p hp => ?_⟩
    · rw [r.length] at hw
      rw [cutDs_whole hw.1 hw.2] at hq
      exact k _ (.tup es) τ3 _ _ ((t1.trans t2).trans t3) (.tup hs r) hq
    · obtain ⟨x1, x2⟩ := new_ext (o := .tup (cutV xs lo hi)) t3.ok.sub hp
      exact k _ (.tup (cutDs es lo hi)) τ3 _ _ (((t1.trans t2).trans t3).trans (.small t3.ok x1 x2)) (.tup (.inl (.inl upd_same)) ((cut_rep r).mono (new_same t3.ok.sub hp))) hq
/-- order of tuples of ints -/
def gLtT : D → D → (D → Prop) → Prop := fun x y q => ∃ ns ms : List Int, x = .tup (ns.map D.int) ∧ y = .tup (ms.map D.int) ∧ q (.bl (HT.lexLt ns ms))
def leInts (ns ms : List Int) : Bool := Ob.lexAt (fun j => decide (ns.getD j 0 = ms.getD j 0)) (fun j => decide (ns.getD j 0 ≤ ms.getD j 0)) (decide (ns.length ≤ ms.length)) 0 (min ns.length ms.length)
def gLeT : D → D → (D → Prop) → Prop := fun x y q => ∃ ns ms : List Int, x = .tup (ns.map D.int) ∧ y = .tup (ms.map D.int) ∧ q (.bl (leInts ns ms))
theorem Rep.tupInts {F : Hp} {v : V} {ns : List Int} (h : Rep K F v (.tup (ns.map D.int))) : ∃ a, v = .ref a ∧ SqT K F a (ns.map V.int) := by
  cases h with
  | @tup a xs _ h r =>
    have e := r.intsV
    subst e
    exact ⟨a, rfl, h⟩
theorem o_ltT : Op2 K (rLtT K) gLtT := by
  rintro F H x y d1 d2 q Q s r1 r2 ⟨ns, ms, rfl, rfl, hq⟩ k
  obtain ⟨a, rfl, h1⟩ := r1.tupInts
  obtain ⟨b, rfl, h2⟩ := r2.tupInts
  exact ⟨a, b, ns, ms, rfl, rfl, SqT_mono s h1, SqT_mono s h2, k _ (.bl _) F H (.refl _ _ _) s (.bl _) hq⟩
theorem o_leT : Op2 K (L2.rLeT K) gLeT := by
  rintro F H x y d1 d2 q Q s r1 r2 ⟨ns, ms, rfl, rfl, hq⟩ k
  obtain ⟨a, rfl, h1⟩ := r1.tupInts
  obtain ⟨b, rfl, h2⟩ := r2.tupInts
  exact ⟨a, b, ns, ms, rfl, rfl, SqT_mono s h1, SqT_mono s h2, k _ (.bl _) F H (.refl _ _ _) s (.bl _) hq⟩
/-- the truth of a thing -/
def truD : D → Option Bool | .non => some false | .bl b => some b | .int i => some (i != 0) | .tup ds => some (!ds.isEmpty) | .lst ds => some (!ds.isEmpty) | .fl ds => some (!ds.isEmpty) | _ => none
def wTru (we : EW) : TW := fun τ q e => we τ (fun d τ' => ∃ b, truD d = some b ∧ q b τ') e
theorem Reps.isEmpty {F : Hp} {xs : List V} {ds : List D} (r : Reps K F xs ds) : xs.isEmpty = ds.isEmpty := by cases r <;> rfl
theorem dt_tru {t : TE} {w : EW} (h : DE K W t w) : DT K W (fun σ H Q => t σ H fun x H' => ∃ k, TruV K x H' k ∧ Q k H') (wTru w) := by
  refine ⟨fun σ H τ F Q q e S hw k x => h.run σ H τ F _ _ e S hw (fun z d τ1 F1 H1 t1 r1 ⟨b, eb, hq⟩ => ⟨b, ?_, k b τ1 F1 H1 t1 hq⟩) x⟩
  cases r1 with
  | non => cases eb; rfl
  | bl b => cases eb; rfl
  | int i => cases eb; rfl
  | tup h r =>
    cases eb
    exact .inr (.inl ⟨_, SqT_mono t1.ok.sub h, by rw [r.isEmpty]⟩)
  | lst h r =>
    cases eb
    exact .inl ⟨_, .inl (.inl (t1.ok.sub _ _ h)), by rw [r.isEmpty]⟩
  | fl h r =>
    cases eb
    exact .inl ⟨_, t1.ok.sub.seq h, by rw [r.isEmpty]⟩
  | _ => cases eb
end
end L3

/-! ## enumerate of a list, any, min, in, x[i] += e, a comprehension that is the frame's own -/
namespace L3
open PySem PySem.Spec PyProof.Rows L2
variable [TB : TabT]
/-- xs[k], k from 0 on -/
def rGetN : V → V → Hp → VK → Prop := fun o i H Q => ∃ p xs k v, o = .ref p ∧ i = .int k ∧ H p = some (.lst xs) ∧ 0 ≤ k ∧ xs[k.toNat]? = some v ∧ Q v H
theorem get_listN {X : Cx} : PGet X rGetN := by
  intro pins s σ H o i ov iv Q I ro ri h
  obtain ⟨p, xs, k, v, rfl, rfl, hp, h0, hv, q⟩ := h
  cases ro
  obtain ⟨tk, rfl⟩ := ri
  obtain ⟨its, rv, pl, hz⟩ := I.list (.inl (.inl hp))
  have hl := rv.length
  obtain ⟨hlt, _⟩ := List.getElem?_eq_some_iff.mp hv
  have hsz := sizeLine_eq
  obtain ⟨u, hu, ru⟩ := Vals.get rv hv
  refine getItem_listL pl.isList h0 (by omega) hu ?_
  exact ⟨v, H, I, ru, q⟩
theorem lt65 {k : Nat} {A : Around} (r : Room k A) : A.units + 65 < cLine := by have := r.un; omega
def rInT (K : PySem.W.Frag) : R2 := fun x y H Q => ∃ d ds, Dp K H x d ∧ Dp K H y (.tuple ds) ∧ SeqAt.shaped d = true ∧ SeqAt.shaped (.tuple ds) = true ∧ Q (.bl (ds.any fun z => PyData.eqv z d)) H
theorem op_inT {X : Cx} (hu : X.A.units + 65 < cLine) : OpR X (compareOp .In) (rInT X.K) := by
  intro pins s σ H x y v u Q I rx ry h
  obtain ⟨d, ds, hd, he, sd, se, q⟩ := h
  obtain ⟨as, r1⟩ := Dp.reads I d x v hd rx
  obtain ⟨bs, r2⟩ := Dp.reads I (.tuple ds) y u he ry
  exact SeqAt.in_tuple_reads r2 r1 (SeqAt.canLay_of_shaped se) (SeqAt.canLay_of_shaped sd) (room_in_shaped sd hu) ⟨.bl _, H, I, rfl, q⟩
theorem ixN_ltN {n j : Nat} (h : j < n) : ixN n (j : Int) = some j := by
  unfold ixN
  rw [if_pos (by omega)]
  simp
  omega
section
variable {K : PySem.W.Frag} {W : WX}
def gInT : D → D → (D → Prop) → Prop := fun x y q => ∃ d ds, toPy x = some d ∧ toPy y = some (.tuple ds) ∧ SeqAt.shaped d = true ∧ SeqAt.shaped (.tuple ds) = true ∧ q (.bl (ds.any fun z => PyData.eqv z d))
theorem o_inT : Op2 K (rInT K) gInT := by
  rintro F H x y d1 d2 q Q s r1 r2 ⟨v, ds, e1, e2, h1, h2, hq⟩ k
  exact ⟨v, ds, Dp_mono s (dp_of r1 e1), Dp_mono s (dp_of r2 e2), h1, h2, k _ _ F H (.refl _ _ _) s (.bl _) hq⟩
def gAny : List D → (D → Prop) → Prop := fun ds q => ∃ (es : List D) (bs : List Bool), (ds = [.lst es] ∨ ds = [.fl es]) ∧ es = bs.map D.bl ∧ q (.bl (bs.any id))
theorem o_any : OpN K (rAny K) gAny := by
  rintro F H xs ds q Q s r ⟨es, bs, e, rfl, hq⟩ k
  rcases e with rfl | rfl
  · obtain ⟨v, rfl, r1⟩ := r.one
    cases r1 with
    | lst h r2 =>
      have := Reps.bls r2
      subst this
      exact ⟨_, bs, rfl, .inl (.inl (s _ _ h)), k _ _ F H (.refl _ _ _) s (.bl _) hq⟩
  · obtain ⟨v, rfl, r1⟩ := r.one
    cases r1 with
    | fl h r2 =>
      have := Reps.bls r2
      subst this
      exact ⟨_, bs, rfl, s.seq h, k _ _ F H (.refl _ _ _) s (.bl _) hq⟩
def mnI (a b : Int) : Int := if b < a then b else a
def rMin2 : List V → Hp → VK → Prop := fun xs H Q => ∃ i j, xs = [.int i, .int j] ∧ Q (.int (if j < i then j else i)) H
def gMin2 : List D → (D → Prop) → Prop := fun ds q => ∃ i j : Int, ds = [.int i, .int j] ∧ q (.int (mnI i j))
theorem o_min2 : OpN K rMin2 gMin2 := by
  rintro F H xs ds q Q s r ⟨i, j, rfl, hq⟩ k
  obtain ⟨v, v', rfl, r1, r2⟩ := r.two
  exact ⟨i, j, by rw [r1.int_of, r2.int_of], k _ _ F H (.refl _ _ _) s (.int _) hq⟩
def wEnumL (wa : AW) : IW := fun τ q e => wa τ (fun ds τ' => ∃ es, (ds = [.lst es] ∨ ds = [.fl es]) ∧ q (es.mapIdx fun i d => .tup [.int i, d]) τ') e
theorem it_enum {F : Hp} {a : Addr} {xs : List V} {ds : List D} (h : SqL K F a xs) (r : Reps K F xs ds) : ItOk K F (Ite K a) (ds.mapIdx fun i d => .tup [.int i, d]) := by
  refine ⟨fun i F2 H s s2 hi => ?_, fun F2 H s s2 => ⟨xs, s2.seq (s.seq h), by rw [List.length_mapIdx, r.length]; exact Nat.le_refl _⟩, fun i F2 H x H' s s2 hi y => ?_⟩
  · rw [List.length_mapIdx, ← r.length] at hi
    exact ⟨xs, xs[i], s2.seq (s.seq h), List.getElem?_eq_getElem hi⟩
  · obtain ⟨T, x', rfl, hT, rfl, e⟩ := y
    obtain ⟨d, e1, e2⟩ := (r.mono s).get (e xs (s2.seq (s.seq h)))
    obtain ⟨x1, x2⟩ := new_ext (o := .tup [.int i, x']) s2 hT
    refine ⟨.tup [.int i, d], _, by rw [List.getElem?_mapIdx, e1]; rfl, x1, x2, .tup (.inl (.inl upd_same)) (.cons (.int _) (.cons (e2.mono (new_same s2 hT)) .nil))⟩
theorem di_enumL {t : TA} {w : AW} (h : DA K W t w) : DI K W (iEnum K t) (wEnumL w) := by
  refine ⟨fun σ H τ F R q e S hw k x => h.run σ H τ F _ _ e S hw (fun vs ds τ' F' H' t' r ⟨es, ed, hq⟩ => ?_) x⟩
  rcases ed with rfl | rfl
  · obtain ⟨v, rfl, r1⟩ := r.one
    cases r1 with
    | lst hs r2 => exact ⟨_, _, rfl, .inl (.inl (t'.ok.sub _ _ hs)), k _ _ τ' F' H' t' (it_enum (.inl (.inl hs)) r2) hq⟩
  · obtain ⟨v, rfl, r1⟩ := r.one
    cases r1 with
    | fl hs r2 => exact ⟨_, _, rfl, t'.ok.sub.seq hs, k _ _ τ' F' H' t' (it_enum hs r2) hq⟩
/-- x[k] += e, x an own list of ints -/
def wAugOwn (i : Nat) (wk we : EW) : SW := fun E τ => (∃ p es, τ[i]? = some (.own p (.lst es))) ∧ wk τ (fun k τ1 => ∃ p es n a, τ1[i]? = some (.own p (.lst es)) ∧ k = .int n ∧ 0 ≤ n ∧ es[n.toNat]? = some (.int a) ∧ we τ1 (fun d τ2 => ∃ es2 b, τ2[i]? = some (.own p (.lst es2)) ∧ es2.length = es.length ∧ d = .int b ∧ E.nx (τ2.set i (.own p (.lst (es2.set n.toNat (.int (a + b))))))) E.ex) E.ex
theorem ds_augOwn {i : Nat} {t u : TE} {w v : EW} (h : DE K W t w) (g : DE K W u v) : DS K W (tAugS (tVar i) t u rGetN (ipI fun a b => a + b) rSetL) (wAugOwn i w v) := by
  refine ⟨fun σ H τ F Dn E S ⟨⟨p, es, e0⟩, hw⟩ o => ?_⟩
  obtain ⟨s0, _, vs0, h0, _⟩ := own_lst S e0
  refine ⟨.ref p, s0, ?_⟩
  refine h.run σ H τ F _ _ E.ex S hw (fun y kd τ1 F1 H1 t1 r1 ⟨p', es', n, a, e1, ek, n0, ea, hq⟩ => ?_) o.xto
  subst ek
  obtain ⟨s1, _, vs1, h1, r2⟩ := own_lst t1.ok e1
  rw [s0] at s1
  cases s1
  obtain ⟨vv, ev, rv⟩ := r2.getD ea
  refine ⟨p, vs1, n, vv, rfl, r1.int_of, h1, n0, ev, ?_⟩
  refine g.run σ H1 τ1 F1 _ _ E.ex t1.ok hq (fun x d τ2 F2 H2 t2 r3 ⟨es2, b, e2, hl, ed, hn⟩ => ?_) (o.of t1).xto
  subst ed
  refine ⟨a, b, rv.int_of, r3.int_of, ?_⟩
  obtain ⟨s2, _, vs2, h2, r4⟩ := own_lst t2.ok e2
  rw [s0] at s2
  cases s2
  have hlt : n.toNat < es'.length := (List.getElem?_eq_some_iff.mp ea).1
  refine ⟨p, vs2, n, n.toNat, rfl, r1.int_of, h2, ?_, ?_⟩
  · have : n = ((n.toNat : Nat) : Int) := by omega
    rw [this]
    exact ixN_ltN (by rw [r4.length]; omega)
  · exact o.nx σ _ F2 _ (to_change (t1.trans t2) e2 (.lst (Reps.set (.int _) _ r4))) hn
/-- what is there and belongs to nobody becomes the frame's own -/
theorem To.takeOwn {F H F1 H1 : Hp} {σ : L2.St} {τ τ1 : List Cell} {i : Nat} {p : Addr} {vs : HO} {ds : Cont} (t : To K F H σ τ F1 H1 τ1) (hp0 : Fr H p) (nF : F1 p = none) (hH : H1 p = some vs) (nO : ¬ IsOwn τ1 p) (r : CRep K F1 vs ds) (fl : Flat ds := by trivial) :
    To K F H (σ.set i (some (.ref p))) τ F1 H1 (τ1.set i (.own p ds)) :=
  ⟨t.ext, grow_set t fun a f => by rw [flat_has fl f]; exact hp0, t.ok.setOwn (.flat fl nF hH r) fun a f => by rw [flat_has fl f]; exact nO⟩
def wLcOwn (i : Nat) (wI : IW) (wg : GW) (wt : TW) (we : EW) (vs : List Nat) : SW := fun E τ => wI τ (fun ds τ1 => ds.length ≤ 1000 ∧ ∃ inv : Nat → List D → List Cell → Prop, inv 0 [] (wipeD τ1 vs) ∧
  (∀ i d acc τ2, ds[i]? = some d → inv i acc τ2 → acc.length ≤ i → wg d τ2 fun τ3 => wt τ3 (fun b τ4 => (b = true → we τ4 (fun y τ5 => inv (i + 1) (acc ++ [y]) (wipeD τ5 vs)) noX) ∧ (b = false → inv (i + 1) acc (wipeD τ4 vs))) noX) ∧
  ∀ acc τ2, inv ds.length acc (wipeD τ2 vs) → acc.length ≤ ds.length → ∀ p, E.nx ((wipeD τ2 vs).set i (.own p (.lst acc)))) E.ex
theorem ds_lcOwn {i : Nat} {wi : TI} {g : TG} {tt : TT} {te : TE} {vs ws : List Nat} {wI : IW} {wg : GW} {wt : TW} {we : EW} (hi : DI K W wi wI) (hg : DG K ws g wg) (ht : DT K W0 tt wt) (he : DE K W0 te we) (hs : ∀ j ∈ ws, j ∈ vs) :
    DS K W (tAsg (tLc wi g tt te vs) (gName i)) (wLcOwn i wI wg wt we vs) := by
  refine ⟨fun σ H τ F Dn E S hw o => hi.run σ H τ F _ _ E.ex S hw (fun J ds τ1 F1 H1 t1 it ⟨hn, inv, h0, hst, hd⟩ Da hD => ?_) o.xto⟩
  refine lc_turns hg ht he hs t1.ok it hD hn h0 hst fun accV acc F2 H2 τ2 T fD nD hH ra la hinv => ?_
  have T1 : To K F H σ τ F2 H2 (wipeD τ2 vs) := by
    refine t1.trans (To.at (τ1 := wipeD τ2 vs) T ?_ fun p h => h)
    rw [← wipeD_idem]
    exact T.ok.wiped (by rw [wipe_length]) fun j hj => (wipe_ne hj).symm
  exact o.nx _ _ F2 _ (T1.takeOwn (t1.ext.there _ (fr_none hD)) fD hH nD (.lst ra)) (hd acc τ2 hinv la Da)
end
end L3

/-! ## == and != of instances with an own ==, with anything, either way round -/
namespace HN2
open PySem PySem.Spec PyProof.Rows PySem.SeqAt
section
variable {M : Model} {prog : Program} {w : World} {A : Around} {E : Value → Shared → Prop} {s : Shared} {K : PySem.W.Frag} {x C f : Addr} {ox : Obj} {od : Option Obj} {b : Value}
theorem try_eqK {Q : Option Value → Shared → Prop} (X : K.In s.heap) (I : PySem.W.InstAt s.heap x ox C od) (hs : PySem.W.findIn K (.ref C) "__eq__" = some (some (.ref f))) (hf : PySem.W.isFn K (.ref f) = true)
    (h : wpAny M A (call (.ref f) [.ref x, b]) (fun v s' => ∃ k, v = .bool k ∧ Q (some (.bool k)) s') E s) : wpAny M A (tryCompare (.ref x) "__eq__" b) Q E s := by
  unfold tryCompare
  refine wpAny_bind (PySem.W.ifBound_K X I hs hf (wpAny_mono h (fun v s' hv => ?_) fun _ _ e => e))
  obtain ⟨k, rfl, hq⟩ := hv
  exact wpAny_pure hq
theorem entry_neK {Q : Fin → Shared → Prop} (hu : A.units < cLine) (X : K.In s.heap) (I : PySem.W.InstAt s.heap x ox C od) (hs : PySem.W.findIn K (.ref C) "__eq__" = some (some (.ref f))) (hf : PySem.W.isFn K (.ref f) = true)
    (h : wpAny (model prog w) A (call (.ref f) [.ref x, b]) (fun v s' => ∃ k, v = .bool k ∧ Q (.done (.ret (.bool (!k)))) s') E s) : wpAny (model prog w) A (Builtin.«object.__ne__» ⟨[.ref x, b], []⟩) Q E s := by
  unfold Builtin.«object.__ne__»
  repeat (first
    | with_reducible refine wpAny_cRoomFor hu ?_
    | (refine wpAny_bind (m := callSpecialIfBound? (.ref x) (Str.ofString "__eq__") [b])
        (PySem.W.ifBound_K X I hs hf (wpAny_mono h (fun r s' hr => by
          obtain ⟨k, rfl, hq⟩ := hr
          repeat (first | exact hq | exact wpAny_pure hq | exact wpAny_truthy_bool hq | (refine wpAny_bind (m := truthy (.bool _)) (wpAny_truthy_bool ?_)) | wp_step)) fun _ _ e => e)))
    | wp_step)
theorem call_objNe {Q : Value → Shared → Prop} (hu : A.in1.units < cLine) (X : K.In s.heap) (I : PySem.W.InstAt s.heap x ox C od) (hm : PySem.W.mroIn K C (.type "object") = some true) (hs : PySem.W.findIn K (.ref C) "__eq__" = some (some (.ref f))) (hf : PySem.W.isFn K (.ref f) = true)
    (h : wpAny (model prog w) A.in1 (call (.ref f) [.ref x, b]) (fun v s' => ∃ k, v = .bool k ∧ Q (.bool (!k)) s') E s) : wpAny (model prog w) A (call (.builtin "object.__ne__") [.ref x, b]) Q E s :=
  wpAny_call (codeAny_call_builtin F.cmp_object.ne.plain F.cmpEntry_ne (PySem.W.check_slot F.cmpKind_ne F.cmpSplit_ne (I.type.andThen (PySem.W.looks_mroIn X hm)) (F.cmpArgs_ne _ _) (entry_neK hu X I hs hf h)))
theorem ifBound_objNe {args : List Value} {Q : Option Value → Shared → Prop} (X : K.In s.heap) (I : PySem.W.InstAt s.heap x ox C od) (hs : PySem.W.findIn K (.ref C) "__ne__" = some (some (.builtin "object.__ne__")))
    (h : wpAny M A (call (.builtin "object.__ne__") (.ref x :: args)) (fun v => Q (some v)) E s) : wpAny M A (callSpecialIfBound? (.ref x) "__ne__" args) Q E s := by
  simp only [callSpecialIfBound?, bindSpecialIfBound?]
  refine wpAny_holding (wpAny_bind (wpAny_bind (wpAny_bind (I.type.here ((PySem.W.looks_findIn X hs).here ?_)))))
  refine wpAny_bind (wpAny_askSetting (wpAny_ite ?_))
  have fin : wpAny M A (call (.builtin "object.__ne__") ([.ref x] ++ args) >>= fun v => pure (some v)) Q E s := wpAny_bind (wpAny_mono h (fun v s' h' => wpAny_pure h') fun _ _ h' => h')
  split
  · exact wpAny_bind (wpAny_of_eq (F.cmp_object.ne.bind _) (wpAny_pure (by exact fin)))
  · exact wpAny_tryCatch (wpAny_bind (wpAny_of_eq (F.cmp_object.ne.bind _) (wpAny_pure (by exact fin))))
theorem try_neK {Q : Option Value → Shared → Prop} (hu : A.in1.units < cLine) (X : K.In s.heap) (I : PySem.W.InstAt s.heap x ox C od) (hm : PySem.W.mroIn K C (.type "object") = some true) (hn : PySem.W.findIn K (.ref C) "__ne__" = some (some (.builtin "object.__ne__")))
    (hs : PySem.W.findIn K (.ref C) "__eq__" = some (some (.ref f))) (hf : PySem.W.isFn K (.ref f) = true)
    (h : wpAny (model prog w) A.in1 (call (.ref f) [.ref x, b]) (fun v s' => ∃ k, v = .bool k ∧ Q (some (.bool (!k))) s') E s) : wpAny (model prog w) A (tryCompare (.ref x) "__ne__" b) Q E s := by
  unfold tryCompare
  refine wpAny_bind (ifBound_objNe X I hn (call_objNe hu X I hm hs hf (wpAny_mono h (fun v s' hv => ?_) fun _ _ e => e)))
  obtain ⟨k, rfl, hq⟩ := hv
  exact ⟨k, rfl, wpAny_pure hq⟩
/-- an instance on the left, what is compared first -/
theorem rc_left {op : CmpOp} {tb : Value} {Q : Value → Shared → Prop} (hu : A.units < cLine) (X : K.In s.heap) (I : PySem.W.InstAt s.heap x ox C od) (hb : PySem.W.Looks (model prog w) s.heap (typeOf b) tb) (hn : PySem.W.notFirst K C tb = true)
    (one : wpAny (model prog w) A (tryCompare (.ref x) (cmpInfo op).2.1 b) (fun r s' => ∃ v, r = some v ∧ Q v s') E s) : wpAny (model prog w) A (richCompare op (.ref x) b) Q E s := by
  unfold richCompare
  simp only [oneThing_ref]
  refine wpAny_holding (wpAny_bind (wpAny_cRoomFor hu ?_))
  refine wpAny_bind (I.type.here (wpAny_bind (hb.here ?_)))
  split
  · rename_i q
    have e : PySem.W.subIn K tb (.ref C) = some false := by
      rcases Bool.or_eq_true_iff.mp hn with e | e
      · rw [beq_iff_eq.mp e] at q; simp at q
      · exact beq_iff_eq.mp e
    refine wpAny_bind ((PySem.W.looks_subIn X e).here ?_)
    simp only [Bool.false_eq_true, if_false]
    refine wpAny_bind (wpAny_mono one (fun r s' z => ?_) fun _ _ e => e)
    obtain ⟨v, rfl, hq⟩ := z
    exact wpAny_pure hq
  · refine wpAny_bind (wpAny_pure ?_)
    simp only [Bool.false_eq_true, if_false]
    refine wpAny_bind (wpAny_mono one (fun r s' z => ?_) fun _ _ e => e)
    obtain ⟨v, rfl, hq⟩ := z
    exact wpAny_pure hq
/-- an instance on the right: the left one, of a built-in kind, declines, and the right one is asked -/
theorem rc_right {op : CmpOp} {T : String} {Q : Value → Shared → Prop} (hu : A.units < cLine) (X : K.In s.heap) (I : PySem.W.InstAt s.heap x ox C od) (hT : s.TypeIs b T) (hn : PySem.W.subIn K (.ref C) (.type T) = some false)
    (h1 : oneThing? op b (.ref x) = none)
    (dec : wpAny (model prog w) A (tryCompare b (cmpInfo op).2.1 (.ref x)) (fun r s' => r = none ∧ s' = s) E s)
    (one : wpAny (model prog w) A (tryCompare (.ref x) (cmpInfo op).2.2 b) (fun r s' => ∃ v, r = some v ∧ Q v s') E s) : wpAny (model prog w) A (richCompare op b (.ref x)) Q E s := by
  unfold richCompare
  simp only [h1]
  refine wpAny_holding (wpAny_bind (wpAny_cRoomFor hu ?_))
  refine wpAny_bind (wpAny_typeOf hT (wpAny_bind (I.type.here ?_)))
  split
  · refine wpAny_bind ((PySem.W.looks_subIn X hn).here ?_)
    simp only [Bool.false_eq_true, if_false, Bool.not_false, if_true]
    refine wpAny_bind (wpAny_mono dec (fun r s1 z => ?_) fun _ _ e => e)
    obtain ⟨z1, z2⟩ := z
    subst z1
    subst z2
    refine wpAny_bind (wpAny_mono one (fun r s' z => ?_) fun _ _ e => e)
    obtain ⟨v, rfl, hq⟩ := z
    exact wpAny_pure hq
  · rename_i q
    exact absurd (by simp) q
end
end HN2
namespace HN2
open PySem PySem.Spec PyProof.Rows PySem.SeqAt
section
variable {M : Model} {prog : Program} {w : World} {A : Around} {E : Value → Shared → Prop} {s : Shared} {K : PySem.W.Frag} {x C dx : Addr} {od : Option Obj}
theorem dec_tuple_eq {Q : Fin → Shared → Prop} {t : Addr} (X : K.In s.heap) (I : PySem.W.InstAt s.heap x (PySem.W.instObj C dx) C od) (hn : PySem.W.subIn K (.ref C) (.type "tuple") = some false) (hq : Q (.done (.ret .notImplemented)) s) :
    wpAny M A (Builtin.«tuple.__eq__» ⟨[.ref t, .ref x], []⟩) Q E s := by
  have L0 := I.type (M := M)
  have L1 := PySem.W.looks_subIn (M := M) X hn
  obtain ⟨hh, g, dr, tk, os⟩ := s
  unfold Builtin.«tuple.__eq__»
  repeat lk
  exact hq
theorem dec_list_eq {Q : Fin → Shared → Prop} {t : Addr} (X : K.In s.heap) (I : PySem.W.InstAt s.heap x (PySem.W.instObj C dx) C od) (hn : PySem.W.subIn K (.ref C) (.type "list") = some false) (hq : Q (.done (.ret .notImplemented)) s) :
    wpAny M A (Builtin.«list.__eq__» ⟨[.ref t, .ref x], []⟩) Q E s := by
  have L0 := I.type (M := M)
  have L1 := PySem.W.looks_subIn (M := M) X hn
  obtain ⟨hh, g, dr, tk, os⟩ := s
  unfold Builtin.«list.__eq__»
  repeat lk
  exact hq
theorem dec_dict_eq {Q : Fin → Shared → Prop} {t : Addr} (X : K.In s.heap) (I : PySem.W.InstAt s.heap x (PySem.W.instObj C dx) C od) (hn : PySem.W.subIn K (.ref C) (.type "dict") = some false) (hq : Q (.done (.ret .notImplemented)) s) :
    wpAny M A (Builtin.«dict.__eq__» ⟨[.ref t, .ref x], []⟩) Q E s := by
  have L0 := I.type (M := M)
  have L1 := PySem.W.looks_subIn (M := M) X hn
  obtain ⟨hh, g, dr, tk, os⟩ := s
  unfold Builtin.«dict.__eq__»
  repeat lk
  exact hq
theorem dec_int_eq {Q : Fin → Shared → Prop} {a : Int} {t : Tok} (I : PySem.W.InstAt s.heap x (PySem.W.instObj C dx) C od) (hq : Q (.done (.ret .notImplemented)) s) :
    wpAny M A (Builtin.«int.__eq__» ⟨[.int a t, .ref x], []⟩) Q E s := by
  have L2 := I.at_
  obtain ⟨hh, g, dr, tk, os⟩ := s
  change hh.get? x = some _ at L2
  unfold Builtin.«int.__eq__»
  repeat lk
  exact hq
theorem dec_bool_eq {Q : Fin → Shared → Prop} {a : Bool} (I : PySem.W.InstAt s.heap x (PySem.W.instObj C dx) C od) (hq : Q (.done (.ret .notImplemented)) s) :
    wpAny M A (Builtin.«int.__eq__» ⟨[.bool a, .ref x], []⟩) Q E s := by
  have L2 := I.at_
  obtain ⟨hh, g, dr, tk, os⟩ := s
  change hh.get? x = some _ at L2
  unfold Builtin.«int.__eq__»
  repeat lk
  exact hq
theorem dec_str_eq {Q : Fin → Shared → Prop} {a : Str} {t : Tok} (I : PySem.W.InstAt s.heap x (PySem.W.instObj C dx) C od) (hq : Q (.done (.ret .notImplemented)) s) :
    wpAny M A (Builtin.«str.__eq__» ⟨[.str a t, .ref x], []⟩) Q E s := by
  have L2 := I.at_
  obtain ⟨hh, g, dr, tk, os⟩ := s
  change hh.get? x = some _ at L2
  unfold Builtin.«str.__eq__»
  repeat lk
  exact hq
theorem dec_tuple_ne {Q : Fin → Shared → Prop} {t : Addr} (X : K.In s.heap) (I : PySem.W.InstAt s.heap x (PySem.W.instObj C dx) C od) (hn : PySem.W.subIn K (.ref C) (.type "tuple") = some false) (hq : Q (.done (.ret .notImplemented)) s) :
    wpAny M A (Builtin.«tuple.__ne__» ⟨[.ref t, .ref x], []⟩) Q E s := by
  have L0 := I.type (M := M)
  have L1 := PySem.W.looks_subIn (M := M) X hn
  obtain ⟨hh, g, dr, tk, os⟩ := s
  unfold Builtin.«tuple.__ne__»
  repeat lk
  exact hq
theorem dec_list_ne {Q : Fin → Shared → Prop} {t : Addr} (X : K.In s.heap) (I : PySem.W.InstAt s.heap x (PySem.W.instObj C dx) C od) (hn : PySem.W.subIn K (.ref C) (.type "list") = some false) (hq : Q (.done (.ret .notImplemented)) s) :
    wpAny M A (Builtin.«list.__ne__» ⟨[.ref t, .ref x], []⟩) Q E s := by
  have L0 := I.type (M := M)
  have L1 := PySem.W.looks_subIn (M := M) X hn
  obtain ⟨hh, g, dr, tk, os⟩ := s
  unfold Builtin.«list.__ne__»
  repeat lk
  exact hq
theorem dec_dict_ne {Q : Fin → Shared → Prop} {t : Addr} (X : K.In s.heap) (I : PySem.W.InstAt s.heap x (PySem.W.instObj C dx) C od) (hn : PySem.W.subIn K (.ref C) (.type "dict") = some false) (hq : Q (.done (.ret .notImplemented)) s) :
    wpAny M A (Builtin.«dict.__ne__» ⟨[.ref t, .ref x], []⟩) Q E s := by
  have L0 := I.type (M := M)
  have L1 := PySem.W.looks_subIn (M := M) X hn
  obtain ⟨hh, g, dr, tk, os⟩ := s
  unfold Builtin.«dict.__ne__»
  repeat lk
  exact hq
theorem dec_int_ne {Q : Fin → Shared → Prop} {a : Int} {t : Tok} (I : PySem.W.InstAt s.heap x (PySem.W.instObj C dx) C od) (hq : Q (.done (.ret .notImplemented)) s) :
    wpAny M A (Builtin.«int.__ne__» ⟨[.int a t, .ref x], []⟩) Q E s := by
  have L2 := I.at_
  obtain ⟨hh, g, dr, tk, os⟩ := s
  change hh.get? x = some _ at L2
  unfold Builtin.«int.__ne__»
  repeat lk
  exact hq
theorem dec_bool_ne {Q : Fin → Shared → Prop} {a : Bool} (I : PySem.W.InstAt s.heap x (PySem.W.instObj C dx) C od) (hq : Q (.done (.ret .notImplemented)) s) :
    wpAny M A (Builtin.«int.__ne__» ⟨[.bool a, .ref x], []⟩) Q E s := by
  have L2 := I.at_
  obtain ⟨hh, g, dr, tk, os⟩ := s
  change hh.get? x = some _ at L2
  unfold Builtin.«int.__ne__»
  repeat lk
  exact hq
theorem dec_str_ne {Q : Fin → Shared → Prop} {a : Str} {t : Tok} (I : PySem.W.InstAt s.heap x (PySem.W.instObj C dx) C od) (hq : Q (.done (.ret .notImplemented)) s) :
    wpAny M A (Builtin.«str.__ne__» ⟨[.str a t, .ref x], []⟩) Q E s := by
  have L2 := I.at_
  obtain ⟨hh, g, dr, tk, os⟩ := s
  change hh.get? x = some _ at L2
  unfold Builtin.«str.__ne__»
  repeat lk
  exact hq
end
end HN2
namespace HN2
open PySem PySem.Spec PyProof.Rows PySem.SeqAt
section
variable {prog : Program} {w : World} {A : Around} {E : Value → Shared → Prop} {s : Shared} {K : PySem.W.Frag} {x C dx : Addr} {od : Option Obj}
/-- the left one declines -/
def Dec (prog : Program) (w : World) (A : Around) (op : CmpOp) (b : Value) (x : Addr) (s : Shared) : Prop := ∀ E : Value → Shared → Prop, wpAny (model prog w) A (tryCompare b (cmpInfo op).2.1 (.ref x)) (fun r s' => r = none ∧ s' = s) E s
theorem try_tuple_eq {t : Addr} (hT : s.TypeIs (.ref t) "tuple") (X : K.In s.heap) (I : PySem.W.InstAt s.heap x (PySem.W.instObj C dx) C od) (hn : PySem.W.subIn K (.ref C) (.type "tuple") = some false) : Dec prog w A .Eq (.ref t) x s := fun E =>
  wpAny_tryCompare_declines hT F.slot_tuple_eq (GQ.call_here F.slot_tuple_eq hT F.entry_tuple_eq (F.args_tuple_eq_2 _ _) (dec_tuple_eq X I hn ⟨rfl, rfl, rfl⟩))
theorem try_list_eq {t : Addr} (hT : s.TypeIs (.ref t) "list") (X : K.In s.heap) (I : PySem.W.InstAt s.heap x (PySem.W.instObj C dx) C od) (hn : PySem.W.subIn K (.ref C) (.type "list") = some false) : Dec prog w A .Eq (.ref t) x s := fun E =>
  wpAny_tryCompare_declines hT F.slot_list_eq (GQ.call_here F.slot_list_eq hT F.entry_list_eq (F.args_list_eq_2 _ _) (dec_list_eq X I hn ⟨rfl, rfl, rfl⟩))
theorem try_dict_eq {t : Addr} (hT : s.TypeIs (.ref t) "dict") (X : K.In s.heap) (I : PySem.W.InstAt s.heap x (PySem.W.instObj C dx) C od) (hn : PySem.W.subIn K (.ref C) (.type "dict") = some false) : Dec prog w A .Eq (.ref t) x s := fun E =>
  wpAny_tryCompare_declines hT F.slot_dict_eq (GQ.call_here F.slot_dict_eq hT F.entry_dict_eq (F.args_dict_eq_2 _ _) (dec_dict_eq X I hn ⟨rfl, rfl, rfl⟩))
theorem try_int_eq {a : Int} {t : Tok} (I : PySem.W.InstAt s.heap x (PySem.W.instObj C dx) C od) : Dec prog w A .Eq (.int a t) x s := fun E =>
  wpAny_tryCompare_declines (show s.TypeIs (.int a t) "int" from rfl) F.slot_int_eq (GQ.call_here F.slot_int_eq (show s.TypeIs (.int a t) "int" from rfl) F.entry_int_eq (F.args_int_eq_2 _ _) (dec_int_eq I ⟨rfl, rfl, rfl⟩))
theorem try_bool_eq {a : Bool} (I : PySem.W.InstAt s.heap x (PySem.W.instObj C dx) C od) : Dec prog w A .Eq (.bool a) x s := fun E =>
  wpAny_tryCompare_declines (show s.TypeIs (.bool a) "bool" from rfl) F.slot_bool_eq (GQ.call_here F.slot_bool_eq (show s.TypeIs (.bool a) "bool" from rfl) F.entry_int_eq (F.args_int_eq_2 _ _) (dec_bool_eq I ⟨rfl, rfl, rfl⟩))
theorem try_str_eq {a : Str} {t : Tok} (I : PySem.W.InstAt s.heap x (PySem.W.instObj C dx) C od) : Dec prog w A .Eq (.str a t) x s := fun E =>
  wpAny_tryCompare_declines (show s.TypeIs (.str a t) "str" from rfl) F.slot_str_eq (GQ.call_here F.slot_str_eq (show s.TypeIs (.str a t) "str" from rfl) F.entry_str_eq (F.args_str_eq_2 _ _) (dec_str_eq I ⟨rfl, rfl, rfl⟩))
theorem try_none_eq : Dec prog w A .Eq .none x s := fun E =>
  wpAny_tryCompare_declines (show s.TypeIs .none "NoneType" from rfl) F.slot_NoneType_eq (call_gives F.slot_NoneType_eq rfl F.entry_NoneType_eq (F.args_NoneType_eq_2 _ _) (NoneType___eq___none_ref_0 x) ⟨rfl, rfl, rfl⟩)
theorem try_tuple_ne {t : Addr} (hT : s.TypeIs (.ref t) "tuple") (X : K.In s.heap) (I : PySem.W.InstAt s.heap x (PySem.W.instObj C dx) C od) (hn : PySem.W.subIn K (.ref C) (.type "tuple") = some false) : Dec prog w A .NotEq (.ref t) x s := fun E =>
  wpAny_tryCompare_declines hT F.slot_tuple_ne (GQ.call_here F.slot_tuple_ne hT F.entry_tuple_ne (F.args_tuple_ne_2 _ _) (dec_tuple_ne X I hn ⟨rfl, rfl, rfl⟩))
theorem try_list_ne {t : Addr} (hT : s.TypeIs (.ref t) "list") (X : K.In s.heap) (I : PySem.W.InstAt s.heap x (PySem.W.instObj C dx) C od) (hn : PySem.W.subIn K (.ref C) (.type "list") = some false) : Dec prog w A .NotEq (.ref t) x s := fun E =>
  wpAny_tryCompare_declines hT F.slot_list_ne (GQ.call_here F.slot_list_ne hT F.entry_list_ne (F.args_list_ne_2 _ _) (dec_list_ne X I hn ⟨rfl, rfl, rfl⟩))
theorem try_dict_ne {t : Addr} (hT : s.TypeIs (.ref t) "dict") (X : K.In s.heap) (I : PySem.W.InstAt s.heap x (PySem.W.instObj C dx) C od) (hn : PySem.W.subIn K (.ref C) (.type "dict") = some false) : Dec prog w A .NotEq (.ref t) x s := fun E =>
  wpAny_tryCompare_declines hT F.slot_dict_ne (GQ.call_here F.slot_dict_ne hT F.entry_dict_ne (F.args_dict_ne_2 _ _) (dec_dict_ne X I hn ⟨rfl, rfl, rfl⟩))
theorem try_int_ne {a : Int} {t : Tok} (I : PySem.W.InstAt s.heap x (PySem.W.instObj C dx) C od) : Dec prog w A .NotEq (.int a t) x s := fun E =>
  wpAny_tryCompare_declines (show s.TypeIs (.int a t) "int" from rfl) F.slot_int_ne (GQ.call_here F.slot_int_ne (show s.TypeIs (.int a t) "int" from rfl) F.entry_int_ne (F.args_int_ne_2 _ _) (dec_int_ne I ⟨rfl, rfl, rfl⟩))
theorem try_bool_ne {a : Bool} (I : PySem.W.InstAt s.heap x (PySem.W.instObj C dx) C od) : Dec prog w A .NotEq (.bool a) x s := fun E =>
  wpAny_tryCompare_declines (show s.TypeIs (.bool a) "bool" from rfl) F.slot_bool_ne (GQ.call_here F.slot_bool_ne (show s.TypeIs (.bool a) "bool" from rfl) F.entry_int_ne (F.args_int_ne_2 _ _) (dec_bool_ne I ⟨rfl, rfl, rfl⟩))
theorem try_str_ne {a : Str} {t : Tok} (I : PySem.W.InstAt s.heap x (PySem.W.instObj C dx) C od) : Dec prog w A .NotEq (.str a t) x s := fun E =>
  wpAny_tryCompare_declines (show s.TypeIs (.str a t) "str" from rfl) F.slot_str_ne (GQ.call_here F.slot_str_ne (show s.TypeIs (.str a t) "str" from rfl) F.entry_str_ne (F.args_str_ne_2 _ _) (dec_str_ne I ⟨rfl, rfl, rfl⟩))
theorem try_none_ne : Dec prog w A .NotEq .none x s := fun E =>
  wpAny_tryCompare_declines (show s.TypeIs .none "NoneType" from rfl) F.slot_NoneType_ne (call_gives F.slot_NoneType_ne rfl F.entry_NoneType_ne (F.args_NoneType_ne_2 _ _) (NoneType___ne___none_ref_0 x) ⟨rfl, rfl, rfl⟩)
end
end HN2
namespace L2
open PySem PySem.Spec PyProof.Rows
/-- a thing that is no instance: its kind -/
inductive KindV (K : PySem.W.Frag) (H : Hp) : V → String → Prop where
  | non : KindV K H .non "NoneType"
  | bl (x : Bool) : KindV K H (.bl x) "bool"
  | int (i : Int) : KindV K H (.int i) "int"
  | str (x : Str) : KindV K H (.str x) "str"
  | tup {a : Addr} {xs : List V} (e : SqT K H a xs) : KindV K H (.ref a) "tuple"
  | lst {a : Addr} {xs : List V} (e : SqL K H a xs) : KindV K H (.ref a) "list"
  | dct {a : Addr} (e : TyX K H (.ref a) (.type "dict")) : KindV K H (.ref a) "dict"
section
variable {X : Cx} {pins : List (Addr × Obj)} {σ : St} {H : Hp} {s : Shared} {x : V} {u : Value} {T : String}
theorem kind_ty (I : Inv X pins σ H s) (r : RelV x u) (h : KindV X.K H x T) : s.TypeIs u T := by
  cases h with
  | non => cases (show u = Value.none from r); rfl
  | bl b => cases (show u = Value.bool b from r); rfl
  | int i => obtain ⟨t, e⟩ := (show ∃ t, u = Value.int i t from r); cases e; rfl
  | str b => obtain ⟨t, e⟩ := (show ∃ t, u = Value.str b t from r); cases e; rfl
  | tup e =>
    cases (show u = Value.ref _ from r)
    obtain ⟨its, _, ⟨o, e1, e2, _⟩, _⟩ := I.tuple e
    exact ⟨o, e1, e2⟩
  | lst e =>
    cases (show u = Value.ref _ from r)
    obtain ⟨its, _, p, _⟩ := I.list e
    obtain ⟨o, n, e1, e2, _⟩ := p
    exact ⟨o, e1, e2⟩
  | @dct a e =>
    cases (show u = Value.ref a from r)
    have key : ∀ (v : V) (t : Value), TyX X.K H v t → v = .ref a → t = .type "dict" → s.TypeIs (.ref a) "dict" := by
      intro v t ht e1 e2
      cases ht with
      | base b =>
        cases b with
        | @dK b kvs e =>
          cases e1
          obtain ⟨_, _, vs, _, o, es, ep, h1, h2, _⟩ := (show ObjOk X.prog X.w H s.heap a (.dK kvs) from I.hok a _ e)
          exact ⟨o, h1, h2.1⟩
        | @dT b kvs e =>
          cases e1
          obtain ⟨_, _, xs, _, o, es, ep, h1, h2, _⟩ := (show ObjOk X.prog X.w H s.heap a (.dT kvs) from I.hok a _ e)
          exact ⟨o, h1, h2.1⟩
        | _ => first | (cases e1; done) | (simp at e2)
      | kDict e c =>
        cases e1
        exact ⟨_, I.kIn a _ e, c⟩
      | @fDict b o kvs e =>
        cases e1
        obtain ⟨_, _, _, vs, _, o', es, ep, h1, h2, _⟩ := (show ObjOk X.prog X.w H s.heap a (.frz o (.dK kvs)) from I.hok a _ e)
        exact ⟨o', h1, h2.1⟩
      | _ => first | (cases e1; done) | (simp at e2)
    exact key _ _ e rfl rfl
theorem looks_kind {M : Model} (h : s.TypeIs u T) : PySem.W.Looks M s.heap (typeOf u) (.type T) := by
  intro A Q E s' k q
  cases u with
  | ref a =>
    obtain ⟨o, e, c⟩ := h
    exact wpAny_typeOf (show s'.TypeIs (.ref a) T from ⟨o, k _ _ e, c⟩) q
  | _ => exact wpAny_typeOf (s := s') (by exact h) q
theorem one_none {op : CmpOp} {a : Addr} (r : RelV x u) (h : KindV X.K H x T) : oneThing? op u (.ref a) = none := by
  cases h with
  | non => cases (show u = Value.none from r); rfl
  | bl b => cases (show u = Value.bool b from r); rfl
  | int i => obtain ⟨t, e⟩ := (show ∃ t, u = Value.int i t from r); cases e; rfl
  | str b => obtain ⟨t, e⟩ := (show ∃ t, u = Value.str b t from r); cases e; rfl
  | tup e => cases (show u = Value.ref _ from r); rfl
  | lst e => cases (show u = Value.ref _ from r); rfl
  | dct e => cases (show u = Value.ref _ from r); rfl
theorem kind_dec {A : Around} {x' C dx : Addr} {od : Option Obj} {neg : Bool} (I : Inv X pins σ H s) (r : RelV x u) (h : KindV X.K H x T) (J : PySem.W.InstAt s.heap x' (PySem.W.instObj C dx) C od) (hn : PySem.W.subIn X.K (.ref C) (.type T) = some false) :
    HN2.Dec X.prog X.w A (if neg then .NotEq else .Eq) u x' s := by
  have ty := kind_ty I r h
  cases neg with
  | true =>
    show HN2.Dec X.prog X.w A .NotEq u x' s
    cases h with
    | non => cases (show u = Value.none from r); exact HN2.try_none_ne
    | bl b => cases (show u = Value.bool b from r); exact HN2.try_bool_ne J
    | int i => obtain ⟨t, e⟩ := (show ∃ t, u = Value.int i t from r); cases e; exact HN2.try_int_ne J
    | str b => obtain ⟨t, e⟩ := (show ∃ t, u = Value.str b t from r); cases e; exact HN2.try_str_ne J
    | tup e => cases (show u = Value.ref _ from r); exact HN2.try_tuple_ne ty I.kIn J hn
    | lst e => cases (show u = Value.ref _ from r); exact HN2.try_list_ne ty I.kIn J hn
    | dct e => cases (show u = Value.ref _ from r); exact HN2.try_dict_ne ty I.kIn J hn
  | false =>
    show HN2.Dec X.prog X.w A .Eq u x' s
    cases h with
    | non => cases (show u = Value.none from r); exact HN2.try_none_eq
    | bl b => cases (show u = Value.bool b from r); exact HN2.try_bool_eq J
    | int i => obtain ⟨t, e⟩ := (show ∃ t, u = Value.int i t from r); cases e; exact HN2.try_int_eq J
    | str b => obtain ⟨t, e⟩ := (show ∃ t, u = Value.str b t from r); cases e; exact HN2.try_str_eq J
    | tup e => cases (show u = Value.ref _ from r); exact HN2.try_tuple_eq ty I.kIn J hn
    | lst e => cases (show u = Value.ref _ from r); exact HN2.try_list_eq ty I.kIn J hn
    | dct e => cases (show u = Value.ref _ from r); exact HN2.try_dict_eq ty I.kIn J hn
end
/-- what a class with an own == and no other != must have -/
structure OwnCmp (K : PySem.W.Frag) (C g : Addr) : Prop where
  eq : PySem.W.findIn K (.ref C) "__eq__" = some (some (.ref g))
  ne : PySem.W.findIn K (.ref C) "__ne__" = some (some (.builtin "object.__ne__"))
  fn : PySem.W.isFn K (.ref g) = true
  top : PySem.W.mroIn K C (.type "object") = some true
/-- == (or !=) of an instance of the class at C with anything, either way round -/
def rCmpO (K : PySem.W.Frag) (C : Addr) (sp : Sp) (E : XK) (neg : Bool) : R2 := fun x y H Q => ∃ a dx fs, H a = some (.ins C dx fs) ∧
  ((x = .ref a ∧ ((∃ T, KindV K H y T ∧ PySem.W.notFirst K C (.type T) = true) ∨ (∃ b C' dy gs, y = .ref b ∧ H b = some (.ins C' dy gs) ∧ PySem.W.notFirst K C (.ref C') = true)) ∧
      sp [x, y] H (fun z H' => ∃ k, z = .bl k ∧ Q (.bl (if neg then !k else k)) H') E) ∨
    (y = .ref a ∧ (∃ T, KindV K H x T ∧ PySem.W.subIn K (.ref C) (.type T) = some false) ∧ sp [y, x] H (fun z H' => ∃ k, z = .bl k ∧ Q (.bl (if neg then !k else k)) H') E))
section
variable {X : Cx} {CX : CXT} {C g : Addr} {n : Nat} {sp : Sp} {E : XK}
theorem ifO (neg : Bool) : (cmpInfo (if neg then CmpOp.NotEq else .Eq)).2.1 = (if neg then Str.ofString "__ne__" else Str.ofString "__eq__") := by cases neg <;> rfl
theorem ifO2 (neg : Bool) : (cmpInfo (if neg then CmpOp.NotEq else .Eq)).2.2 = (if neg then Str.ofString "__ne__" else Str.ofString "__eq__") := by cases neg <;> rfl
theorem try_own {pins : List (Addr × Obj)} {s : Shared} {σ : St} {H : Hp} {a dx : Addr} {od : Option Obj} {y : V} {u : Value} {neg : Bool} {Q : VK} (c : OwnCmp X.K C g) (F : FnR X.prog X.w X.K X.mg X.base CX n g sp) (hr : Room (n + 1) X.A) (hx : Passes CX X E)
    (I : Inv X pins σ H s) (J : PySem.W.InstAt s.heap a (PySem.W.instObj C dx) C od) (ry : RelV y u) (q : sp [.ref a, y] H (fun z H' => ∃ k, z = .bl k ∧ Q (.bl (if neg then !k else k)) H') E) :
    wpAny (model X.prog X.w) X.A (tryCompare (.ref a) (if neg then Str.ofString "__ne__" else Str.ofString "__eq__") u) (fun r s' => ∃ v, r = some v ∧ EP X pins σ Q v s') X.xe s := by
  have back : ∀ (v : Value) (s' : Shared), EP X pins σ (fun z H' => ∃ k, z = .bl k ∧ Q (.bl (if neg then !k else k)) H') v s' → ∃ k, v = .bool k ∧ EP X pins σ Q (.bool (if neg then !k else k)) s' := fun v s' h => by
    obtain ⟨z, H', I', rz, k, e, q⟩ := h
    subst e
    cases (show v = Value.bool k from rz)
    exact ⟨k, rfl, V.bl (if neg then !k else k), H', I', (show Value.bool _ = Value.bool _ from rfl), q⟩
  cases neg with
  | false =>
    refine HN2.try_eqK I.kIn J c.eq c.fn (wpAny_mono (wpAny_call (run_fnR (us := [.ref a, u]) (vs := [.ref a, y]) F (hr.mono (by omega)) hx I (.cons rfl (.cons ry .nil)) q)) (fun v s' h => ?_) fun _ _ e => e)
    obtain ⟨k, ek, h2⟩ := back v s' h
    subst ek
    exact ⟨k, rfl, _, rfl, h2⟩
  | true =>
    refine HN2.try_neK hr.in1.units0 I.kIn J c.top c.ne c.eq c.fn (wpAny_mono (wpAny_call (SlX.run_at (us := [.ref a, u]) (ws := [.ref a, y]) F hr.in1 I.env0.in1 hx I (.cons rfl (.cons ry .nil)) q)) (fun v s' h => ?_) fun _ _ e => e)
    obtain ⟨k, ek, h2⟩ := back v s' h
    subst ek
    exact ⟨k, rfl, _, rfl, h2⟩
theorem op_cmpO {neg : Bool} (c : OwnCmp X.K C g) (F : FnR X.prog X.w X.K X.mg X.base CX n g sp) (hr : Room (n + 1) X.A) (hx : Passes CX X E) : OpR X (compareOp (if neg then .NotEq else .Eq)) (rCmpO X.K C sp E neg) := by
  intro pins s σ H x y v u Q I rx ry h
  obtain ⟨a, dx, fs, ha, h⟩ := h
  obtain ⟨mA, J0, _⟩ := ins_get I.hok ha
  obtain ⟨od, J, _⟩ := J0.look
  have hop : compareOp (if neg then .NotEq else .Eq) v u = richCompare (if neg then .NotEq else .Eq) v u := by cases neg <;> rfl
  rw [hop]
  rcases h with ⟨rfl, hy, q⟩ | ⟨rfl, ⟨T, hk, hn⟩, q⟩
  · cases (show v = Value.ref a from rx)
    rcases hy with ⟨T, hk, hn⟩ | ⟨b, C', dy, gs, rfl, hb, hn⟩
    · refine HN2.rc_left hr.units0 I.kIn J (looks_kind (kind_ty I ry hk)) hn ?_
      rw [ifO]
      exact try_own c F hr hx I J ry q
    · cases (show u = Value.ref b from ry)
      obtain ⟨mB, J1, _⟩ := ins_get I.hok hb
      obtain ⟨od', J', _⟩ := J1.look
      refine HN2.rc_left hr.units0 I.kIn J J'.type hn ?_
      rw [ifO]
      exact try_own c F hr hx I J (show RelV (.ref b) (Value.ref b) from rfl) q
  · cases (show u = Value.ref a from ry)
    refine HN2.rc_right hr.units0 I.kIn J (kind_ty I rx hk) hn (one_none rx hk) (kind_dec I rx hk J hn _) ?_
    rw [ifO2]
    exact try_own c F hr hx I J rx q
end
end L2
namespace L3
open PySem PySem.Spec PyProof.Rows L2
variable [TB : TabT]
variable {K : PySem.W.Frag} {W : WX}
def kindNames : List String := ["NoneType", "bool", "int", "str", "tuple", "list", "dict"]
theorem sub_bi {T : String} {C : Addr} (h : T ∈ kindNames) : PySem.W.subIn K (.type T) (.ref C) = some false := by
  have key : ∀ (T : String) (l : List Value), fastBuiltinMro T = some l → (∀ v ∈ l, ∀ a, v ≠ .ref a) → PySem.W.subIn K (.type T) (.ref C) = some false := fun T l e hl => by
    show (fastBuiltinMro T).map (·.contains (.ref C)) = some false
    rw [e]
    have : l.contains (.ref C) = false := by
      rw [← Bool.not_eq_true, List.contains_iff_mem]
      exact fun m => hl _ m C rfl
    show some (l.contains (.ref C)) = some false
    rw [this]
  simp only [kindNames, List.mem_cons, List.not_mem_nil, or_false] at h
  rcases h with rfl | rfl | rfl | rfl | rfl | rfl | rfl
  · exact key _ [.type "NoneType", .type "object"] (by decide +kernel) (by simp)
  · exact key _ [.type "bool", .type "int", .type "object"] (by decide +kernel) (by simp)
  · exact key _ [.type "int", .type "object"] (by decide +kernel) (by simp)
  · exact key _ [.type "str", .type "object"] (by decide +kernel) (by simp)
  · exact key _ [.type "tuple", .type "object"] (by decide +kernel) (by simp)
  · exact key _ [.type "list", .type "object"] (by decide +kernel) (by simp)
  · exact key _ [.type "dict", .type "object"] (by decide +kernel) (by simp)
/-- things that are no instance, of the kinds above -/
def BltD : D → Prop
  | .non | .bl _ | .int _ | .str _ | .tup _ | .lst _ | .fl _ => True
  | .oth (.type "dict") => True
  | _ => False
theorem blt_kind {F H : Hp} {v : V} {d : D} (s : Same F H) (r : Rep K F v d) (h : BltD d) : ∃ T, T ∈ kindNames ∧ KindV K H v T := by
  have r := r.mono s
  cases r with
  | non => exact ⟨_, by simp [kindNames], .non⟩
  | bl b => exact ⟨_, by simp [kindNames], .bl b⟩
  | int b => exact ⟨_, by simp [kindNames], .int b⟩
  | str b => exact ⟨_, by simp [kindNames], .str b⟩
  | tup a _ => exact ⟨_, by simp [kindNames], .tup a⟩
  | lst a _ => exact ⟨_, by simp [kindNames], .lst (.inl (.inl a))⟩
  | fl a _ => exact ⟨_, by simp [kindNames], .lst a⟩
  | ty _ => exact h.elim
  | adr _ => exact h.elim
  | oth t =>
    unfold BltD at h
    split at h
    · cases ‹D.oth _ = _›
    · cases ‹D.oth _ = _›
    · cases ‹D.oth _ = _›
    · cases ‹D.oth _ = _›
    · cases ‹D.oth _ = _›
    · cases ‹D.oth _ = _›
    · cases ‹D.oth _ = _›
    · rename_i e
      cases e
      exact ⟨_, by simp [kindNames], .dct t⟩
    · exact h.elim
  | ins _ _ => exact h.elim
/-- no built-in kind is below the class -/
def NoSub (K : PySem.W.Frag) (C : Addr) : Prop := ∀ T ∈ kindNames, PySem.W.subIn K (.ref C) (.type T) = some false
/-- == or != of an instance (of the class at C) with anything, either way round, over data -/
def gCmpO (K : PySem.W.Frag) (C : Addr) (fs : FS) (neg : Bool) : D → D → (D → Prop) → Prop := fun d1 d2 q => ∃ gs,
  (d1 = .ins C gs ∧ (BltD d2 ∨ ∃ C' gs', d2 = .ins C' gs' ∧ PySem.W.notFirst K C (.ref C') = true) ∧ fs [.dat d1, .dat d2] (fun d _ => ∃ k, d = .bl k ∧ q (.bl (if neg then !k else k))) (fun _ _ => False)) ∨
  (d2 = .ins C gs ∧ BltD d1 ∧ NoSub K C ∧ fs [.dat d2, .dat d1] (fun d _ => ∃ k, d = .bl k ∧ q (.bl (if neg then !k else k))) (fun _ _ => False))
/-- an operation that may call defs of the text -/
def Op2T (K : PySem.W.Frag) (r : R2) (g : D → D → (D → Prop) → Prop) : Prop :=
  ∀ (F H F0 H0 : Hp) (σ : L2.St) (τ τ0 : List Cell) (v1 v2 : V) (d1 d2 : D) (q : D → Prop) (Q : VK), To K F0 H0 σ τ0 F H τ → Rep K F v1 d1 → Rep K F v2 d2 → g d1 d2 q →
    (∀ v d F' H', To K F0 H0 σ τ0 F' H' τ → Rep K F' v d → q d → Q v H') → r v1 v2 H Q
theorem de_opT {r : R2} {g : D → D → (D → Prop) → Prop} {ta tb : TE} {wa wb : EW} (o : Op2T K r g) (ha : DE K W ta wa) (hb : DE K W tb wb) : DE K W (tOp r ta tb) (wOp g wa wb) := by
  refine ⟨fun σ H τ F Q q e S h k x => ?_⟩
  refine ha.run σ H τ F _ _ e S h (fun v1 d1 τ1 F1 H1 t1 r1 h1 => ?_) x
  refine hb.run σ H1 τ1 F1 _ _ e t1.ok h1 (fun v2 d2 τ2 F2 H2 t2 r2 h2 => ?_) (x.of t1)
  exact o F2 H2 F H σ τ2 τ v1 v2 d1 d2 _ Q (t1.trans t2) (r1.mono t2.ext.f) r2 h2 fun v d F' H' T r hq => k v d τ2 F' H' T r hq
def rOr (r1 r2 : R2) : R2 := fun x y H Q => r1 x y H Q ∨ r2 x y H Q
def gOr (g1 g2 : D → D → (D → Prop) → Prop) : D → D → (D → Prop) → Prop := fun x y q => g1 x y q ∨ g2 x y q
theorem o_or {r1 r2 : R2} {g1 g2 : D → D → (D → Prop) → Prop} (h1 : Op2T K r1 g1) (h2 : Op2T K r2 g2) : Op2T K (rOr r1 r2) (gOr g1 g2) := fun F H F0 H0 σ τ τ0 v1 v2 d1 d2 q Q t a b h k =>
  h.elim (fun h => .inl (h1 F H F0 H0 σ τ τ0 v1 v2 d1 d2 q Q t a b h k)) fun h => .inr (h2 F H F0 H0 σ τ τ0 v1 v2 d1 d2 q Q t a b h k)
theorem op_or {X : Cx} {f : Value → Value → Sem Value} {r1 r2 : R2} (h1 : OpR X f r1) (h2 : OpR X f r2) : OpR X f (rOr r1 r2) := fun pins s σ H x y v u Q I a b h =>
  h.elim (h1 pins s σ H x y v u Q I a b) (h2 pins s σ H x y v u Q I a b)
theorem cmp_sp {F H F0 H0 : Hp} {σ : L2.St} {τ τ0 : List Cell} {v1 v2 : V} {d1 d2 : D} {fs : FS} {q : D → Prop} {Q : VK} {E : XK} (t : To K F0 H0 σ τ0 F H τ) (r1 : Rep K F v1 d1) (r2 : Rep K F v2 d2)
    (h : fs [.dat d1, .dat d2] (fun d _ => q d) (fun _ _ => False)) (k : ∀ v d F' H', To K F0 H0 σ τ0 F' H' τ → Rep K F' v d → q d → Q v H') : spOf K 2 fs [v1, v2] H Q E := by
  have a : ArgsOk K F σ [v1, v2] [.d d1, .d d2] := .d r1 (.d r2 .nil)
  refine ⟨rfl, F, [.dat d1, .dat d2], _, _, pre_call t a List.nodup_nil, h, fun v d cs' F2 H2 x2 s2 c2 r2 hq => ?_, fun y cls dx cs' F2 H2 x2 s2 c2 r2 hq => hq.elim⟩
  have T := call_to (as := [.d d1, .d d2]) t List.nodup_nil trivial x2 s2 c2
  have e : putBack τ [.d d1, .d d2] cs' = τ := by
    cases cs' with
    | nil => simp [putBack]
    | cons c cs => cases cs <;> simp [putBack]
  rw [e] at T
  exact k v d F2 H2 T r2 hq
theorem o_cmpO {C : Addr} {fs : FS} {neg : Bool} {E : XK} : Op2T K (rCmpO K C (spOf K 2 fs) E neg) (gCmpO K C fs neg) := by
  intro F2 H2 F H σ τ2 τ v1 v2 d1 d2 q Q t r1 r2 h2 k
  obtain ⟨gs, ⟨rfl, hy, hf⟩ | ⟨rfl, hy, hn, hf⟩⟩ := h2
  · have rr := r1.mono t.ok.sub
    have r1c := r1
    cases rr with
    | @ins a _ dx fv _ ea _ =>
      refine ⟨a, dx, fv, ea, .inl ⟨rfl, ?_, ?_⟩⟩
      · rcases hy with hy | ⟨C', gs', rfl, hn⟩
        · obtain ⟨T, hT, hk⟩ := blt_kind t.ok.sub r2 hy
          refine .inl ⟨T, hk, ?_⟩
          unfold PySem.W.notFirst
          rw [sub_bi hT]
          simp
        · have rr2 := r2.mono t.ok.sub
          cases rr2 with
          | @ins b _ dy fw _ eb _ => exact .inr ⟨b, C', dy, fw, rfl, eb, hn⟩
      · refine cmp_sp t r1c r2 hf fun v d F' H' T r hq => ?_
        obtain ⟨kk, rfl, hq⟩ := hq
        cases r
        exact ⟨kk, rfl, k _ _ F' H' T (.bl _) hq⟩
  · have rr := r2.mono t.ok.sub
    have r2c := r2
    cases rr with
    | @ins a _ dx fv _ ea _ =>
      obtain ⟨T, hT, hk⟩ := blt_kind t.ok.sub r1 hy
      refine ⟨a, dx, fv, ea, .inr ⟨rfl, ⟨T, hk, hn T hT⟩, ?_⟩⟩
      refine cmp_sp t r2c r1 hf fun v d F' H' T r hq => ?_
      obtain ⟨kk, rfl, hq⟩ := hq
      cases r
      exact ⟨kk, rfl, k _ _ F' H' T (.bl _) hq⟩
end L3

/-! ## isinstance with a class of the text -/
namespace L3
open PySem PySem.Spec PyProof.Rows L2
variable [TB : TabT]
variable {K : PySem.W.Frag} {W : WX}

def gIsiC (K : PySem.W.Frag) (C : Addr) : D → (D → Prop) → Prop := fun d q => ∃ b, ((noTy d ∧ PySem.W.kitOne K (tyD d) (.ref C) = some b) ∨ (∃ C' gs, d = .ins C' gs ∧ InsTy K C' ∧ PySem.W.kitOne K (.ref C') (.ref C) = some b)) ∧ q (.bl b)
def wIsiC (C : Addr) (K : PySem.W.Frag) (wa : EW) : EW := fun τ q e => wa τ (fun d τ' => gIsiC K C d fun d' => q d' τ') e
theorem de_isiC {C : Addr} {ta : TE} {wa : EW} (ha : DE K W ta wa) : DE K W (tCB (rIsi K) (tCons ta (tCons (tC (.ref C)) tNil))) (wIsiC C K wa) := by
  refine ⟨fun σ H τ F Q q e S h k x => ?_⟩
  refine ha.run σ H τ F _ _ e S h (fun v d τ1 F1 H1 t1 r1 h1 => ?_) x
  obtain ⟨b, ht, hq⟩ := h1
  have fin : Q (.bl b) H1 := k (.bl b) (.bl b) τ1 F1 H1 t1 (.bl b) hq
  rcases ht with ⟨nt, e1⟩ | ⟨C', gs, rfl, c, e1⟩
  · exact ⟨v, .ref C, tyD d, .ref C, b, rfl, .own C, TyX_mono t1.ok.sub (r1.tyX nt), e1, fin⟩
  · have rr := r1.mono t1.ok.sub
    cases rr with
    | @ins a _ dx fv _ ea _ => exact ⟨.ref a, .ref C, .ref C', .ref C, b, rfl, .own C, .base (.ins ea c.cl c.ha c.hn c.ht c.hm), e1, fin⟩
end L3

namespace L2
open PySem PySem.Spec PyProof.Rows
theorem fnR0 {P : Program} {w : World} {K : PySem.W.Frag} {mg : Str → Option Value} {base : Heap} {CX : CXT} {k : Nat} {f : Addr} {sp : Sp} {fd : FuncData} {ps : List Str} (F : FnOk P w K mg base CX k f fd ps sp) (hb : Binds K fd ps []) : FnR P w K mg base CX k f sp :=
  (F.raw hb .nil).imp fun vs H Q E h => by rw [List.append_nil]; exact h
end L2

/-! ## the pool, while, pop, remove, lists of one's own out of others, try .. except -/
namespace L3
open PySem PySem.Spec PyProof.Rows L2
variable [TB : TabT]
section
variable {K : PySem.W.Frag} {W : WX}
/-- a cell is exchanged -/
theorem SOk.change {F H : Hp} {σ : L2.St} {τ : List Cell} {i : Nat} {c c' : Cell} (S : SOk K F H σ τ) (h : τ[i]? = some c) (co : CellOk K F H c') (sl : ∀ s, SlotOk K F s c → SlotOk K F s c') (less : ∀ a, Has c' a → Has c a ∨ ¬ IsOwn τ a) : SOk K F H σ (τ.set i c') := by
  refine ⟨S.tabs, S.sub, by rw [List.length_set]; exact S.len, fun j s d h1 h2 => ?_, fun j d e => ?_, S.inj.set fun a f j d nj e f2 => ?_⟩
  · rcases set_get h2 with ⟨rfl, rfl, _⟩ | ⟨_, h2⟩
    · exact sl s (S.slot j s _ h1 h)
    · exact S.slot j s d h1 h2
  · rcases set_get e with ⟨_, rfl, _⟩ | ⟨_, e⟩
    · exact co
    · exact S.own j d e
  · rcases less a f with z | z
    · exact nj (S.inj j i d c a e h f2 z)
    · exact z ⟨j, d, e, f2⟩
/-- x = y[2], y the pool: its list is a name's own as long as it is handed about -/
def wPoolOpen (i j : Nat) : SW := fun E τ => i ≠ j ∧ j < τ.length ∧ ∃ p a b q ns, τ[i]? = some (.own p (.pool a b q ns)) ∧ E.nx ((τ.set i (.own p (.lst [.int a, .int b, .adr q]))).set j (.own q (.lst (ns.map D.int))))
theorem ds_poolOpen {i j : Nat} : DS K W (tAsg (tOp (rIx K) (tVar i) (tC (.int 2))) (gName j)) (wPoolOpen i j) := by
  refine ⟨fun σ H τ F Dn E S ⟨hij, hj, p, a, b, q, ns, e0, hq⟩ o => ?_⟩
  have hi : i < σ.length := by rw [S.len]; exact (List.getElem?_eq_some_iff.mp e0).1
  have s0 : σ[i] = some (.ref p) := S.slot i σ[i] _ (List.getElem?_eq_getElem hi) e0
  obtain ⟨hF, vs, hH, hR, hn, fq, hq2⟩ := S.own i _ e0
  cases hR
  refine ⟨.ref p, by rw [List.getElem?_eq_getElem hi, s0], .inl ⟨p, _, 2, .ref q, rfl, rfl, .inl (.inl hH), rfl, ?_⟩⟩
  have S1 : SOk K F H σ (τ.set i (.own p (.lst [.int a, .int b, .adr q]))) := S.change e0 ⟨hF, _, hH, .lst (.cons (.int _) (.cons (.int _) (.cons (.adr _) .nil))), trivial⟩ (fun s h => h) fun x f => .inl (.inl (flat_has (k := .lst [.int a, .int b, .adr q]) trivial f))
  have nq : ¬ IsOwn (τ.set i (.own p (.lst [.int a, .int b, .adr q]))) q := fun ⟨k, d, e, f⟩ => by
    rcases set_get e with ⟨_, rfl, _⟩ | ⟨nk, e⟩
    · exact hn (flat_has (k := .lst [.int a, .int b, .adr q]) trivial f)
    · exact nk (S.inj k i d _ q e e0 f (.inr rfl))
  have S2 : SOk K F H (σ.set j (some (.ref q))) ((τ.set i (.own p (.lst [.int a, .int b, .adr q]))).set j (.own q (.lst (ns.map D.int)))) :=
    S1.setOwn (.flat trivial fq hq2 (.lst .ints)) fun x f => by rw [flat_has (k := .lst (ns.map D.int)) trivial f]; exact nq
  refine o.nx _ _ F H ⟨.refl _ _ _, fun x ⟨k, d, e, f⟩ => .inl ?_, S2⟩ hq
  rcases set_get e with ⟨_, rfl, _⟩ | ⟨_, e⟩
  · rw [flat_has (k := .lst (ns.map D.int)) trivial f]
    exact ⟨i, _, e0, .inr rfl⟩
  · rcases set_get e with ⟨_, rfl, _⟩ | ⟨_, e⟩
    · rw [flat_has (k := .lst [.int a, .int b, .adr q]) trivial f]
      exact isOwn_at e0
    · exact ⟨k, d, e, f⟩
/-- the pool is whole again, ahead of a statement -/
def wPoolClose (i j : Nat) (w : SW) : SW := fun E τ => i ≠ j ∧ ∃ p a b q ns, τ[i]? = some (.own p (.lst [.int a, .int b, .adr q])) ∧ τ[j]? = some (.own q (.lst (ns.map D.int))) ∧ w E ((τ.set j .any).set i (.own p (.pool a b q ns)))
theorem ds_poolClose {i j : Nat} {t : TS} {w : SW} (h : DS K W t w) : DS K W t (wPoolClose i j w) := by
  refine ⟨fun σ H τ F Dn E S ⟨hij, p, a, b, q, ns, e0, e1, hw⟩ o => ?_⟩
  obtain ⟨hF, vs, hH, hR, _⟩ := S.own i _ e0
  obtain ⟨fq, us, hq, hR2, _⟩ := S.own j _ e1
  cases hR2 with
  | @lst us _ r2 =>
    have := Reps.intsV r2
    subst this
    cases hR with
    | @lst vs _ r =>
      cases r with
      | cons r1 r =>
        cases r1
        cases r with
        | cons r1 r =>
          cases r1
          cases r with
          | cons r1 r =>
            cases r1
            cases r
            have hne : q ≠ p := fun z => hij (S.inj i j _ _ p e0 e1 (.inl rfl) (.inl z.symm))
            have S1 : SOk K F H σ (τ.set j .any) := S.change e1 trivial (fun _ _ => trivial) fun x f => f.elim
            have e2 : (τ.set j .any)[i]? = some (.own p (.lst [.int a, .int b, .adr q])) := by rw [List.getElem?_set_ne (Ne.symm hij)]; exact e0
            have nq : ¬ IsOwn (τ.set j .any) q := fun ⟨k, d, e, f⟩ => by
              rcases set_get e with ⟨_, rfl, _⟩ | ⟨nk, e⟩
              · exact f.elim
              · exact nk (S.inj k j d _ q e e1 f (.inl rfl))
            have S2 : SOk K F H σ ((τ.set j .any).set i (.own p (.pool a b q ns))) := S1.change e2 ⟨hF, _, hH, .pool, hne, fq, hq⟩ (fun s h => h) fun x f => f.elim (fun z => .inl (.inl z)) fun z => .inr (by rw [show x = q from z]; exact nq)
            have g : Grow τ H ((τ.set j .any).set i (.own p (.pool a b q ns))) := fun x ⟨k, d, e, f⟩ => .inl (by
              rcases set_get e with ⟨_, rfl, _⟩ | ⟨_, e⟩
              · rcases f with rfl | f
                · exact isOwn_at e0
                · rw [show x = q from f]; exact isOwn_at e1
              · rcases set_get e with ⟨_, rfl, _⟩ | ⟨_, e⟩
                · exact f.elim
                · exact ⟨k, d, e, f⟩)
            exact h.run σ H _ F Dn E S2 hw (o.of ⟨.refl _ _ _, g, S2⟩)
/-- return [a, b, [.. for ..]]: a pool -/
def wRetPool (wa wb : EW) (wI : IW) (wg : GW) (wt : TW) (we : EW) (vs : List Nat) : SW := fun E τ => wa τ (fun d1 τ1 => wb τ1 (fun d2 τ2 => ∃ a b, d1 = .int a ∧ d2 = .int b ∧ wI τ2 (fun ds τ3 => ds.length ≤ 1000 ∧ ∃ inv : Nat → List D → List Cell → Prop, inv 0 [] (wipeD τ3 vs) ∧
  (∀ i d acc τ4, ds[i]? = some d → inv i acc τ4 → acc.length ≤ i → wg d τ4 fun τ5 => wt τ5 (fun b τ6 => (b = true → we τ6 (fun y τ7 => inv (i + 1) (acc ++ [y]) (wipeD τ7 vs)) noX) ∧ (b = false → inv (i + 1) acc (wipeD τ6 vs))) noX) ∧
  ∀ acc τ4, inv ds.length acc (wipeD τ4 vs) → acc.length ≤ ds.length → ∃ ns, acc = ns.map D.int ∧ ∀ q, E.rf (.pool a b q ns) (wipeD τ4 vs)) E.ex) E.ex) E.ex
theorem ds_retPool {ta tb : TE} {wa wb : EW} {wi : TI} {g : TG} {tt : TT} {te : TE} {vs ws : List Nat} {wI : IW} {wg : GW} {wt : TW} {we : EW} (ha : DE K W ta wa) (hb : DE K W tb wb) (hi : DI K W wi wI) (hg : DG K ws g wg) (ht : DT K W0 tt wt) (he : DE K W0 te we) (hs : ∀ j ∈ ws, j ∈ vs) :
    DS K W (tRet (tLst (tCons ta (tCons tb (tCons (tLc wi g tt te vs) tNil))))) (wRetPool wa wb wI wg wt we vs) := by
  refine ⟨fun σ H τ F Dn E S hw o => ha.run σ H τ F _ _ E.ex S hw (fun v1 d1 τ1 F1 H1 t1 r1 hw1 => ?_) o.xto⟩
  refine hb.run σ H1 τ1 F1 _ _ E.ex t1.ok hw1 (fun v2 d2 τ2 F2 H2 t2 r2 ⟨a, b, e1, e2, hw2⟩ => ?_) (o.of t1).xto
  subst e1 e2
  have t12 := t1.trans t2
  refine hi.run σ H2 τ2 F2 _ _ E.ex t2.ok hw2 (fun J ds τ3 F3 H3 t3 it ⟨hn, inv, h0, hst, hd⟩ Da hD => ?_) (o.of t12).xto
  have t13 := t12.trans t3
  refine lc_turns hg ht he hs t3.ok it hD hn h0 hst fun accV acc F4 H4 τ4 T fD nD hH ra la hinv => ?_
  have T1 : To K F H σ τ F4 H4 (wipeD τ4 vs) := by
    refine t13.trans (To.at (τ1 := wipeD τ4 vs) T ?_ fun p h => h)
    rw [← wipeD_idem]
    exact T.ok.wiped (by rw [wipe_length]) fun j hj => (wipe_ne hj).symm
  obtain ⟨ns, ea, hq⟩ := hd acc τ4 hinv la
  subst ea
  have := Reps.intsV ra
  subst this
  have ev1 := r1.int_of
  have ev2 := r2.int_of
  subst ev1 ev2
  refine ⟨(show (3 : Nat) ≤ sizeLine by decide), fun p hp => ?_⟩
  have hp0 := T1.back (fr_none hp)
  have nF := new_not_data T1.ok hp
  have nO := new_not_own T1.ok hp
  have ne : Da ≠ p := fun z => by rw [z, hp] at hH; cases hH
  have hDa : Fr H Da := t13.back (fr_none hD)
  refine o.rf p (.pool a b Da ns) _ F4 _ (T1.touch hp0 nF nO (tabs_new hp)).ret ⟨nF, _, upd_same, .pool, ne, fD, by rw [upd_ne ne]; exact hH⟩ (fun x f => ?_) (hq Da)
  rcases f with rfl | f
  · exact ⟨hp0, nO⟩
  · rw [show x = Da from f]
    exact ⟨hDa, nD⟩
/-- x.pop(0), as a statement -/
def wPop0 (i : Nat) : SW := fun E τ => ∃ p x es, τ[i]? = some (.own p (.lst (x :: es))) ∧ E.nx (τ.set i (.own p (.lst es)))
theorem ds_pop0 {i : Nat} : DS K W (tDrop (tBM K "list" rPopAt (tVar i) (tCons (tC (.int 0)) tNil))) (wPop0 i) := by
  refine ⟨fun σ H τ F Dn E S ⟨p, x, es, e0, hq⟩ o => ?_⟩
  obtain ⟨s0, _, vs0, h0, r0⟩ := own_lst S e0
  refine ⟨.ref p, s0, .inl ⟨rfl, vs0, .inl (.inl h0)⟩, ?_⟩
  cases r0 with
  | @cons v vs _ _ r1 r2 =>
    refine ⟨p, v :: vs, 0, 0, v, rfl, rfl, h0, by decide, by decide, ?_, rfl, ?_⟩
    · unfold seqIndex?
      simp
    · exact o.nx σ _ F _ (to_change (.refl S) e0 (.lst r2)) hq
/-- y = x.pop() -/
def wPopTo (i j : Nat) : SW := fun E τ => ∃ p es x, τ[i]? = some (.own p (.lst (es ++ [x]))) ∧ E.nx ((τ.set i (.own p (.lst es))).set j (.dat x))
theorem Reps.snoc {F : Hp} {ds : List D} {d : D} : ∀ {vs : List V}, Reps K F vs (ds ++ [d]) → ∃ us v, vs = us ++ [v] ∧ Reps K F us ds ∧ Rep K F v d := by
  induction ds with
  | nil =>
    intro vs r
    obtain ⟨v, e, r1⟩ := Reps.one r
    exact ⟨[], v, e, .nil, r1⟩
  | cons x ds ih =>
    intro vs r
    cases r with
    | cons r1 r2 =>
      obtain ⟨us, v, rfl, r3, r4⟩ := ih r2
      exact ⟨_ :: us, v, rfl, .cons r1 r3, r4⟩
theorem ds_popTo {i j : Nat} : DS K W (tAsg (tBM0 K "list" rPop (tVar i)) (gName j)) (wPopTo i j) := by
  refine ⟨fun σ H τ F Dn E S ⟨p, es, x, e0, hq⟩ o => ?_⟩
  obtain ⟨s0, _, vs0, h0, r0⟩ := own_lst S e0
  obtain ⟨us, v, rfl, r1, r2⟩ := r0.snoc
  refine ⟨.ref p, s0, .inl ⟨rfl, _, .inl (.inl h0)⟩, p, us ++ [v], v, rfl, rfl, h0, by simp, ?_⟩
  rw [List.dropLast_concat]
  have T := to_change (es := .lst es) (.refl S) e0 (.lst r1)
  exact o.nx _ _ F _ (T.at (T.ok.set r2) fun a h => isOwn_set (c := .dat x) (fun a z => z) h) hq
/-- while -/
def wWhile (wc : TW) (wb : SW) : SW := fun E τ => ∃ inv : Nat → List Cell → Prop, (∃ m, inv m τ) ∧ ∀ m τ1, inv m τ1 → wc τ1 (fun b τ2 => (b = true → wb { E with nx := fun τ3 => ∃ m', m' < m ∧ inv m' τ3, ct := fun τ3 => ∃ m', m' < m ∧ inv m' τ3, bk := E.nx } τ2) ∧ (b = false → E.nx τ2)) E.ex
theorem ds_while {tc : TT} {tb : TS} {wc : TW} {wb : SW} (hc : DT K W tc wc) (hb : DS K W tb wb) : DS K W (tWhile tc tb) (wWhile wc wb) := by
  refine ⟨fun σ H τ F Dn E S ⟨inv, ⟨m0, h0⟩, hst⟩ o => ?_⟩
  refine ⟨fun m σ2 H2 => ∃ τ2 F2, To K F H σ2 τ F2 H2 τ2 ∧ inv m τ2, ⟨m0, τ, F, .refl S, h0⟩, ?_⟩
  rintro m σ2 H2 ⟨τ2, F2, t2, hinv⟩
  refine hc.run σ2 H2 τ2 F2 _ _ E.ex t2.ok (hst m τ2 hinv) (fun b τ3 F3 H3 t3 ⟨h1, h2⟩ => ?_) (o.of t2).xto
  have T3 := t2.trans t3
  cases b with
  | true =>
    refine iteT ?_
    refine ⟨fun σ' H' => ∃ m', m' < m ∧ ∃ τ' F', To K F H σ' τ F' H' τ' ∧ inv m' τ', fun σ' H' ⟨m', hm, τ', F', t', q⟩ => ⟨m', hm, τ', F', t', q⟩, ?_⟩
    have o3 := o.of T3
    refine hb.run σ2 H3 τ3 F3 _ _ T3.ok (h1 rfl) ⟨fun σ' τ' F' H' u ⟨m', hm, q⟩ => ⟨m', hm, τ', F', T3.trans u, q⟩, fun σ' τ' F' H' u q => o3.nx σ' τ' F' H' u q, fun σ' τ' F' H' u ⟨m', hm, q⟩ => ⟨m', hm, τ', F', T3.trans u, q⟩, o3.rt, o3.ex, o3.rf⟩
  | false =>
    refine iteF ?_
    exact o.nx σ2 τ3 F3 H3 T3 (h2 rfl)
/-- x = list(e): a list of the name's own -/
def wListOwn (i : Nat) (wa : AW) : SW := fun E τ => wa τ (fun ds τ' => ∃ d es, ds = [d] ∧ seqD d = some es ∧ ∀ p, E.nx (τ'.set i (.own p (.lst es)))) E.ex
theorem ds_listOwn {i : Nat} {t : TA} {w : AW} (h : DA K W t w) : DS K W (tAsg (tCB (rListOf K) t) (gName i)) (wListOwn i w) := by
  refine ⟨fun σ H τ F Dn E S hw o => h.run σ H τ F _ _ E.ex S hw (fun vs ds τ' F' H' t' r ⟨d, es, ed, e, hq⟩ => ?_) o.xto⟩
  subst ed
  obtain ⟨v, rfl, r1⟩ := r.one
  obtain ⟨a, ys, rfl, hs, r2⟩ := r1.seq e
  exact ⟨a, ys, rfl, hs.imp (fun h => t'.ok.sub.seq h) (fun h => SqT_mono t'.ok.sub h), fun l hl => o.nx _ _ F' _ (to_own t' hl (.lst r2)) (hq l)⟩
/-- for .. in x, x an own list that stays as it is meanwhile -/
def wForOwn (i : Nat) (wg : GW) (wb : SW) : SW := fun E τ => ∃ p es, τ[i]? = some (.own p (.lst es)) ∧ ∃ inv : Nat → List Cell → Prop, inv 0 τ ∧
  (∀ k d τ2, es[k]? = some d → inv k τ2 → τ2[i]? = some (.own p (.lst es)) ∧ wg d τ2 fun τ3 => wb { E with nx := inv (k + 1), ct := inv (k + 1), bk := E.nx } τ3) ∧ ∀ τ2, inv es.length τ2 → τ2[i]? = some (.own p (.lst es)) ∧ E.nx τ2
theorem ds_forOwn {i : Nat} {g : TG} {tb : TS} {vs : List Nat} {wg : GW} {wb : SW} (hg : DG K vs g wg) (hb : DS K W tb wb) : DS K W (tFor (iSeq K (tVar i)) g tb) (wForOwn i wg wb) := by
  refine ⟨fun σ H τ F Dn E S ⟨p, es, e0, inv, h0, hst, hd⟩ o => ?_⟩
  obtain ⟨s0, _, vs0, hh0, r0⟩ := own_lst S e0
  refine ⟨.ref p, s0, p, rfl, .inl ⟨⟨vs0, .inl (.inl hh0)⟩, ?_⟩⟩
  refine ⟨fun k m σ2 H2 => m = es.length - k ∧ k ≤ es.length ∧ ∃ τ2 F2, To K F H σ2 τ F2 H2 τ2 ∧ inv k τ2, ⟨_, rfl, Nat.zero_le _, τ, F, .refl S, h0⟩, ?_⟩
  rintro k m σ2 H2 ⟨rfl, hle, τ2, F2, t2, hinv⟩
  by_cases hlt : k < es.length
  · obtain ⟨e2, hw⟩ := hst k es[k] τ2 (List.getElem?_eq_getElem hlt) hinv
    obtain ⟨_, _, us, hh2, r2⟩ := own_lst t2.ok e2
    have hlu : k < us.length := by rw [r2.length]; exact hlt
    refine .inr ⟨⟨us, us[k], .inl (.inl hh2), List.getElem?_eq_getElem hlu⟩, fun σ' H' => ∃ τ' F', To K F H σ' τ F' H' τ' ∧ inv (k + 1) τ', fun σ' H' ⟨τ', F', t', q⟩ => ⟨es.length - (k + 1), by omega, rfl, hlt, τ', F', t', q⟩, fun x H' y => ?_⟩
    obtain ⟨rfl, y⟩ := y
    have ex := y us (.inl (.inl hh2))
    obtain ⟨d, ed, rd⟩ := r2.get ex
    rw [List.getElem?_eq_getElem hlt] at ed
    cases ed
    refine hg.run σ2 H' τ2 F2 x _ _ _ t2.ok rd hw fun σ4 τ4 S4 o4 _ _ h4 => ?_
    have T4 : To K F H σ4 τ F2 H' τ4 := t2.at S4 o4
    refine hb.run σ4 H' τ4 F2 _ _ S4 h4 ?_
    have o4 := o.of T4
    exact ⟨fun σ' τ' F' H' u q => ⟨τ', F', T4.trans u, q⟩, fun σ' τ' F' H' u q => o4.nx σ' τ' F' H' u q, fun σ' τ' F' H' u q => ⟨τ', F', T4.trans u, q⟩, o4.rt, o4.ex, o4.rf⟩
  · have e : k = es.length := by omega
    subst e
    obtain ⟨e2, hw⟩ := hd τ2 hinv
    obtain ⟨_, _, us, hh2, r2⟩ := own_lst t2.ok e2
    exact .inl ⟨⟨us, .inl (.inl hh2), by rw [r2.length]; exact Nat.le_refl _⟩, o.nx σ2 τ2 F2 H2 t2 hw⟩
/-- x.remove(e), x an own list -/
def rRemD (K : PySem.W.Frag) : V → List V → Hp → VK → Prop := fun x vs H Q => ∃ l xs ps v d j, x = .ref l ∧ vs = [v] ∧ H l = some (.lst xs) ∧ DpAll K H xs ps ∧ Dp K H v d ∧ SeqAt.shaped (.list ps) = true ∧ SeqAt.shaped d = true ∧ SeqAt.dataPlace ps d = some j ∧ Q .non (upd H l (.lst (xs.eraseIdx j)))
theorem mt_removeD {X : Cx} (hu : X.A.units + 65 < cLine) : MtR X "list.remove" (rRemD X.K) := by
  intro pins s σ H x vs v us Q I rx rv h
  obtain ⟨l, xs, ps, w, d, j, rfl, rfl, hH, hp, hd, s1, s2, hj, q⟩ := h
  cases rx
  obtain ⟨u, rfl, ru⟩ := rv.one
  obtain ⟨z, its, n, r, hl, e⟩ := I.lstM hH
  obtain ⟨as, ra⟩ := Dp.readsAll I ps xs its hp r
  obtain ⟨bs, rb⟩ := Dp.reads I d w u hd ru
  have c1 : (PyData.list ps).canLay0 = true := SeqAt.canLay_of_shaped s1
  have c2 : (PyData.list ps).plain = true := PyData.plain_of_canLay0 _ c1
  refine SeqAt.remove_list_data (vs := its.toArray) ⟨_, e, rfl, n, rfl⟩ ra rb c2 (PyData.plain_of_canLay0 _ (SeqAt.canLay_of_shaped s2)) (room_in_shaped s2 hu) hj (by rw [List.size_toArray]; omega) ⟨.non, _, I.lset (its' := its.eraseIdx j) hH e ?_ (r.eraseIdx j) ?_, rfl, q⟩
  · show its.toArray.eraseIdxIfInBounds j = (its.eraseIdx j).toArray
    rw [List.eraseIdxIfInBounds_toArray]
  · have := len_erase xs j
    omega
def wRemove (i : Nat) (wa : AW) : SW := fun E τ => (∃ p es, τ[i]? = some (.own p (.lst es))) ∧ wa τ (fun ds τ' => ∃ p es d ps x j, ds = [d] ∧ τ'[i]? = some (.own p (.lst es)) ∧ toPys es = some ps ∧ toPy d = some x ∧ SeqAt.shaped (.list ps) = true ∧ SeqAt.shaped x = true ∧ SeqAt.dataPlace ps x = some j ∧ E.nx (τ'.set i (.own p (.lst (es.eraseIdx j))))) E.ex
theorem Reps.erase {F : Hp} : ∀ {vs : List V} {ds : List D} (n : Nat), Reps K F vs ds → Reps K F (vs.eraseIdx n) (ds.eraseIdx n)
  | _, _, _, .nil => .nil
  | _, _, 0, .cons _ t => t
  | _, _, n + 1, .cons g t => .cons g (Reps.erase n t)
theorem ds_remove {i : Nat} {t : TA} {w : AW} (h : DA K W t w) : DS K W (tDrop (tBM K "list" (rRemD K) (tVar i) t)) (wRemove i w) := by
  refine ⟨fun σ H τ F Dn E S ⟨⟨p, es, e0⟩, hw⟩ o => ?_⟩
  obtain ⟨s0, _, vs0, h0, _⟩ := own_lst S e0
  refine ⟨.ref p, s0, .inl ⟨rfl, vs0, .inl (.inl h0)⟩, ?_⟩
  refine h.run σ H τ F _ _ E.ex S hw (fun vs ds τ' F' H' t' r ⟨p', es', d, ps, x, j, ed, e1, hp, hx, s1, s2, hj, hq⟩ => ?_) o.xto
  subst ed
  obtain ⟨v, rfl, r1⟩ := r.one
  obtain ⟨q1, _, vs1, h1, r2⟩ := own_lst t'.ok e1
  rw [s0] at q1
  cases q1
  refine ⟨p, vs1, ps, v, x, j, rfl, rfl, h1, DpAll_mono t'.ok.sub (dps_of r2 hp), Dp_mono t'.ok.sub (dp_of r1 hx), s1, s2, hj, ?_⟩
  exact o.nx σ _ F' _ (to_change t' e1 (.lst (r2.erase j))) hq
end
/-- try .. except C: -/
def wTry (K : PySem.W.Frag) (C : Addr) (wb wh : SW) : SW := fun E τ => wb { E with ex := fun x τ' => ∃ b, PySem.W.exmOne K (.ref x.cls) (.ref C) = some b ∧ (b = true → wh E τ') ∧ (b = false → E.ex x τ') } τ
section
variable {K : PySem.W.Frag} {W : WX}
theorem ds_try {C : Addr} {tb : WX → TS} {ts : TS} {wb wh : SW} (hb : ∀ W', DS K W' (tb W') wb) (hh : DS K W ts wh) : DS K W (fun D σ H => tb (L2.wOnly K (.ref C) (fun _ _ _ => ts) W D) D σ H) (wTry K C wb wh) := by
  refine ⟨fun σ H τ F Dn E S hw o => ?_⟩
  refine (hb _).run σ H τ F Dn _ S hw ⟨o.nx, o.bk, o.ct, o.rt, fun σ' x cls dx τ' F' H' t r ⟨b, e1, h1, h2⟩ => ?_, o.rf⟩
  exact ⟨b, by rw [r.c]; exact e1, fun z a ha => hh.run σ' H' τ' F' Dn E t.ok (h1 z) (o.of t), fun z => o.ex σ' x cls dx τ' F' H' t r (h2 z)⟩
end
theorem ixN31 : ixN 3 1 = some 1 := by decide
end L3

/-! ## is True, is False -/
namespace L3
open PySem PySem.Spec PyProof.Rows L2
variable [TB : TabT]
def rIsB : R2 := fun x y H Q => ∃ a b, x = .bl a ∧ y = .bl b ∧ Q (.bl (decide (a = b))) H
def rNotB : R2 := fun x y H Q => ∃ a b, x = .bl a ∧ y = .bl b ∧ Q (.bl (!decide (a = b))) H
theorem op_isB {X : Cx} : OpR X (compareOp .Is) rIsB := by
  intro pins s σ H x y v u Q I rx ry h
  obtain ⟨m, n, rfl, rfl, q⟩ := h
  cases rx
  cases ry
  by_cases e : m = n
  · subst e
    exact wpAny_is_self rfl ⟨.bl true, H, I, rfl, by simpa using q⟩
  · exact wpAny_is_other rfl (fun z => e (Value.bool.inj z)) ⟨.bl false, H, I, rfl, by simpa [e] using q⟩
theorem op_notB {X : Cx} : OpR X (compareOp .IsNot) rNotB := by
  intro pins s σ H x y v u Q I rx ry h
  obtain ⟨m, n, rfl, rfl, q⟩ := h
  cases rx
  cases ry
  by_cases e : m = n
  · subst e
    exact wpAny_isNot_self rfl ⟨.bl false, H, I, rfl, by simpa using q⟩
  · exact wpAny_isNot_other rfl (fun z => e (Value.bool.inj z)) ⟨.bl true, H, I, rfl, by simpa [e] using q⟩
section
variable {K : PySem.W.Frag}
def gIsB : D → D → (D → Prop) → Prop := fun x y q => ∃ a b, x = .bl a ∧ y = .bl b ∧ q (.bl (decide (a = b)))
def gNotB : D → D → (D → Prop) → Prop := fun x y q => ∃ a b, x = .bl a ∧ y = .bl b ∧ q (.bl (!decide (a = b)))
theorem o_isB : Op2 K rIsB gIsB := by
  rintro F H x y d1 d2 q Q s r1 r2 ⟨a, b, rfl, rfl, hq⟩ k
  exact ⟨a, b, r1.bl_of, r2.bl_of, k _ _ F H (.refl _ _ _) s (.bl _) hq⟩
theorem o_notB : Op2 K rNotB gNotB := by
  rintro F H x y d1 d2 q Q s r1 r2 ⟨a, b, rfl, rfl, hq⟩ k
  exact ⟨a, b, r1.bl_of, r2.bl_of, k _ _ F H (.refl _ _ _) s (.bl _) hq⟩
end
end L3

set_option Elab.async false
set_option linter.all false
set_option maxRecDepth 100000
set_option maxHeartbeats 4000000
namespace K38
open PySem PySem.Spec PyProof.Rows L2 L3
def inClass (st : Stmt) (j : Nat) : Stmt := match st with | .ClassDef (body := b) .. => b.getD j (.Pass ⟨0, 0, 0, 0⟩) | _ => .Pass ⟨0, 0, 0, 0⟩
def topS (i : Nat) : Stmt := PySem.Challenge.pw_twotides_k38_whole_known_books.main.body.getD i (.Pass ⟨0, 0, 0, 0⟩)
section
variable [TB : TabT] {K : PySem.W.Frag}
/-- a pair of integers, the second above 0, neither great -/
def PrB (k : Nat) (d : D) : Prop := ∃ t b : Int, d = .tup [.int t, .int b] ∧ 0 < b ∧ t.natAbs < 2 ^ k ∧ b.natAbs < 2 ^ k
/-- a fraction in lowest terms -/
def nf (t b : Int) : D := .tup [.int (t / ((Nat.gcd t.natAbs b.natAbs : Nat) : Int)), .int (b / ((Nat.gcd t.natAbs b.natAbs : Nat) : Int))]
theorem gcd_w {t b : Int} (h0 : 0 < b) (h : b.natAbs < 2 ^ 900) (x : Int) : CDivW x (Nat.gcd t.natAbs b.natAbs : Nat) := by
  have hg : 0 < Nat.gcd t.natAbs b.natAbs := Nat.gcd_pos_of_pos_right _ (by omega)
  have gb : Nat.gcd t.natAbs b.natAbs ≤ b.natAbs := Nat.le_of_dvd (by omega) (Nat.gcd_dvd_right _ _)
  exact wide_div (b := 900) (by omega) (by rw [Int.natAbs_natCast]; omega) (by decide) (by decide)
theorem pow_le {a b : Nat} (h : a ≤ b) : (2 : Nat) ^ a ≤ 2 ^ b := Nat.pow_le_pow_right (by decide) h
/-- its integers are below 2 ^ k -/
def SmI (k : Nat) (x y : Int) : Prop := x.natAbs < 2 ^ k ∧ y.natAbs < 2 ^ k
theorem mul_abs {i j : Int} {a b : Nat} (h1 : i.natAbs < 2 ^ a) (h2 : j.natAbs < 2 ^ b) : (i * j).natAbs < 2 ^ (a + b) := wide_lt h1 h2
theorem cmul_w {i j : Int} {a b : Nat} (h1 : i.natAbs < 2 ^ a) (h2 : j.natAbs < 2 ^ b) (ha : 0 < a) (hb : 0 < b) (h : a + b ≤ 1000000) : CMulA i j := .inr (wide_mul h1 h2 ha hb h)
theorem pos_right {a b : Int} (ha : 0 < a) (h : 0 < a * b) : 0 < b := by
  cases Int.lt_or_le 0 b with
  | inl z => exact z
  | inr z =>
    have := Int.mul_le_mul_of_nonneg_left z (Int.le_of_lt ha)
    omega
theorem nf_eq {t b t' b' : Int} (hb : 0 < b) (hb' : 0 < b') (h : t * b' = t' * b) : nf t b = nf t' b' := by
  have z : b.natAbs ≠ 0 := by omega
  have z' : b'.natAbs ≠ 0 := by omega
  have e : Rat.normalize t b.natAbs z = Rat.normalize t' b'.natAbs z' := by
    rw [Rat.normalize_eq_iff]
    have h1 : ((b.natAbs : Nat) : Int) = b := by omega
    have h2 : ((b'.natAbs : Nat) : Int) = b' := by omega
    rw [h1, h2]
    exact h
  rw [Rat.normalize_eq, Rat.normalize_eq] at e
  have e1 := congrArg Rat.num e
  have e2 := congrArg Rat.den e
  have e1 : t / ((Nat.gcd t.natAbs b.natAbs : Nat) : Int) = t' / ((Nat.gcd t'.natAbs b'.natAbs : Nat) : Int) := e1
  have e2 : b.natAbs / Nat.gcd t.natAbs b.natAbs = b'.natAbs / Nat.gcd t'.natAbs b'.natAbs := e2
  have e3 : b / ((Nat.gcd t.natAbs b.natAbs : Nat) : Int) = b' / ((Nat.gcd t'.natAbs b'.natAbs : Nat) : Int) := by
    have h1 : b = ((b.natAbs : Nat) : Int) := by omega
    have h2 : b' = ((b'.natAbs : Nat) : Int) := by omega
    rw [h1, h2, ← Int.natCast_ediv, ← Int.natCast_ediv]
    simpa using congrArg (Nat.cast : Nat → Int) e2
  unfold nf
  rw [e1, e3]
theorem nf_self {t b : Int} (h : Nat.gcd t.natAbs b.natAbs = 1) : nf t b = .tup [.int t, .int b] := by
  unfold nf
  rw [h]
  simp
theorem nf_parts {t b : Int} (hb : 0 < b) : ∃ t' b', nf t b = .tup [.int t', .int b'] ∧ 0 < b' ∧ t' * b = t * b' ∧ t'.natAbs ≤ t.natAbs ∧ b'.natAbs ≤ b.natAbs ∧ Nat.gcd t'.natAbs b'.natAbs = 1 := by
  have hg : 0 < Nat.gcd t.natAbs b.natAbs := Nat.gcd_pos_of_pos_right _ (by omega)
  have hg' : ((Nat.gcd t.natAbs b.natAbs : Nat) : Int) ≠ 0 := by omega
  obtain ⟨x, hx⟩ : ((Nat.gcd t.natAbs b.natAbs : Nat) : Int) ∣ t := Int.ofNat_dvd_left.mpr (Nat.gcd_dvd_left _ _)
  obtain ⟨y, hy⟩ : ((Nat.gcd t.natAbs b.natAbs : Nat) : Int) ∣ b := Int.ofNat_dvd_left.mpr (Nat.gcd_dvd_right _ _)
  have ex : t / ((Nat.gcd t.natAbs b.natAbs : Nat) : Int) = x := Int.ediv_eq_of_eq_mul_right hg' hx
  have ey : b / ((Nat.gcd t.natAbs b.natAbs : Nat) : Int) = y := Int.ediv_eq_of_eq_mul_right hg' hy
  have ax : t.natAbs = Nat.gcd t.natAbs b.natAbs * x.natAbs := by
    have := congrArg Int.natAbs hx
    rwa [Int.natAbs_mul, Int.natAbs_natCast] at this
  have ay : b.natAbs = Nat.gcd t.natAbs b.natAbs * y.natAbs := by
    have := congrArg Int.natAbs hy
    rwa [Int.natAbs_mul, Int.natAbs_natCast] at this
  refine ⟨x, y, by unfold nf; rw [ex, ey], ?_, ?_, ?_, ?_, ?_⟩
  · rw [hy] at hb
    exact pos_right (by omega) hb
  · generalize Nat.gcd t.natAbs b.natAbs = g at hx hy
    rw [hx, hy]
    simp only [Int.mul_assoc, Int.mul_comm, Int.mul_left_comm]
  · rw [ax]; exact Nat.le_mul_of_pos_left _ hg
  · rw [ay]; exact Nat.le_mul_of_pos_left _ hg
  · have h := Nat.gcd_div (Nat.gcd_dvd_left t.natAbs b.natAbs) (Nat.gcd_dvd_right t.natAbs b.natAbs)
    rw [Nat.div_self hg] at h
    have e1 : t.natAbs / Nat.gcd t.natAbs b.natAbs = x.natAbs := Nat.div_eq_of_eq_mul_right hg ax
    have e2 : b.natAbs / Nat.gcd t.natAbs b.natAbs = y.natAbs := Nat.div_eq_of_eq_mul_right hg ay
    rwa [e1, e2] at h
/-- a pair of integers is not great -/
def SmB (k : Nat) : D → Prop | .tup [.int x, .int y] => SmI k x y | _ => True
/-- plain data, n deep at most -/
def ShD : Nat → D → Prop
  | 0, _ => False
  | _ + 1, .non => True
  | _ + 1, .bl _ => True
  | _ + 1, .int _ => True
  | n + 1, .tup ds => ∀ d ∈ ds, ShD n d
  | n + 1, .lst ds => ∀ d ∈ ds, ShD n d
  | _ + 1, _ => False
theorem shDs_py {n : Nat} (ih : ∀ d, ShD n d → ∃ p, toPy d = some p ∧ p.canLay0 = true ∧ p.depth ≤ n) : ∀ {ds : List D}, (∀ d ∈ ds, ShD n d) → ∃ ps, toPys ds = some ps ∧ PyData.canLayAll0 ps = true ∧ PyData.depthAll ps ≤ n ∧ ps = ds.map pyD
  | [], _ => ⟨[], rfl, rfl, Nat.zero_le _, rfl⟩
  | d :: ds, h => by
    obtain ⟨p, e1, c1, d1⟩ := ih d (h d (by simp))
    obtain ⟨ps, e2, c2, d2, e3⟩ := shDs_py ih (ds := ds) fun x hx => h x (by simp [hx])
    refine ⟨p :: ps, ?_, ?_, ?_, ?_⟩
    · show (toPy d).bind _ = _
      rw [e1, e2]
      rfl
    · show (PyData.canLay0 p && PyData.canLayAll0 ps) = true
      rw [c1, c2]
      rfl
    · show max (PyData.depth p) (PyData.depthAll ps) ≤ n
      omega
    · rw [List.map_cons, e3]
      congr 1
      unfold pyD
      rw [e1]
      rfl
theorem shD_py : ∀ {n : Nat} {d : D}, ShD n d → ∃ p, toPy d = some p ∧ p.canLay0 = true ∧ p.depth ≤ n
  | 0, _, h => h.elim
  | n + 1, .non, _ => ⟨_, rfl, rfl, Nat.zero_le _⟩
  | n + 1, .bl _, _ => ⟨_, rfl, rfl, Nat.zero_le _⟩
  | n + 1, .int _, _ => ⟨_, rfl, rfl, Nat.zero_le _⟩
  | n + 1, .tup ds, h => by
    obtain ⟨ps, e, c, d, _⟩ := shDs_py (fun _ => shD_py) (ds := ds) h
    refine ⟨.tuple ps, ?_, c, Nat.succ_le_succ d⟩
    show (toPys ds).map PyData.tuple = _
    rw [e]
    rfl
  | n + 1, .lst ds, h => by
    obtain ⟨ps, e, c, d, _⟩ := shDs_py (fun _ => shD_py) (ds := ds) h
    refine ⟨.list ps, ?_, c, Nat.succ_le_succ d⟩
    show (toPys ds).map PyData.list = _
    rw [e]
    rfl
  | n + 1, .str _, h => h.elim
  | n + 1, .fl _, h => h.elim
  | n + 1, .ty _, h => h.elim
  | n + 1, .oth _, h => h.elim
  | n + 1, .ins _ _, h => h.elim
theorem shD_sh {n : Nat} {d : D} (h : ShD n d) (hn : n ≤ 60) : toPy d = some (pyD d) ∧ SeqAt.shaped (pyD d) = true := by
  obtain ⟨p, e, c, dp⟩ := shD_py h
  have e2 : pyD d = p := by unfold pyD; rw [e]; rfl
  rw [e2]
  refine ⟨e, ?_⟩
  unfold SeqAt.shaped
  rw [c, decide_eq_true (show p.depth ≤ 64 by omega)]
  rfl
def eqB (x y : D) : Bool := PyData.eqv (pyD x) (pyD y)
def inB (x : D) (ys : List D) : Bool := ys.any fun y => PyData.eqv (pyD y) (pyD x)
theorem gEqD_of {n m : Nat} {x y : D} {q : D → Prop} (h : ShD n x) (g : ShD m y) (hn : n ≤ 60) (hm : m ≤ 60) (hq : q (.bl (eqB x y))) : gEqD x y q := by
  obtain ⟨a1, a2⟩ := shD_sh h hn
  obtain ⟨b1, b2⟩ := shD_sh g hm
  exact ⟨_, _, a1, b1, a2, b2, hq⟩
theorem gInT_of {n m : Nat} {x : D} {ys : List D} {q : D → Prop} (h : ShD n x) (g : ShD m (.tup ys)) (hn : n ≤ 60) (hm : m ≤ 60) (hq : q (.bl (inB x ys))) : gInT x (.tup ys) q := by
  obtain ⟨a1, a2⟩ := shD_sh h hn
  obtain ⟨b1, b2⟩ := shD_sh g hm
  cases m with
  | zero => exact g.elim
  | succ m =>
    obtain ⟨ps, e, c, d, e3⟩ := shDs_py (fun _ => shD_py) (ds := ys) g
    have e4 : pyD (.tup ys) = .tuple ps := by
      unfold pyD
      show ((toPys ys).map PyData.tuple).getD .none = _
      rw [e]
      rfl
    rw [e4] at b1 b2
    refine ⟨_, ps, a1, b1, a2, b2, ?_⟩
    have : (ps.any fun z => PyData.eqv z (pyD x)) = inB x ys := by
      unfold inB
      rw [e3, List.any_map]
      rfl
    rw [this]
    exact hq
/-- going along places: the first that is not right -/
def firstIx (P : Nat → Bool) : Nat → Nat → Option Nat
  | _, 0 => none
  | k, n + 1 => if P k = true then firstIx P (k + 1) n else some k
theorem firstIx_ok {P : Nat → Bool} {i n : Nat} (hi : i < n) (h : P i = true) : firstIx P i (n - i) = firstIx P (i + 1) (n - (i + 1)) := by
  have : n - i = (n - (i + 1)) + 1 := by omega
  rw [this, firstIx, if_pos h]
theorem firstIx_no {P : Nat → Bool} {i n : Nat} (hi : i < n) (h : P i = false) : firstIx P i (n - i) = some i := by
  have : n - i = (n - (i + 1)) + 1 := by omega
  rw [this, firstIx, if_neg (by rw [h]; simp)]

abbrev So := Int × Int
def soD (s : So) : D := .tup [.int s.1, .int s.2]
def sosD (ss : List So) : D := .tup (ss.map soD)
abbrev Jo := Nat × Nat
def joD (p : Jo) : D := .tup [.int (p.1 : Nat), .int (p.2 : Nat)]
abbrev Th := Int × Int
def thD (t : Th) : D := .tup [.int t.1, .int t.2]
def stD (ts : List Th) : D := .tup (ts.map thD)
abbrev Ki := List Th × List Jo
def kiD (k : Ki) : D := .tup [stD k.1, .tup (k.2.map joD)]
def kisD (ks : List Ki) : D := .tup (ks.map kiD)
/-- the widths that are drawn -/
def WOk (w : Int) : Prop := w = 1 ∨ w = 2 ∨ w = 3 ∨ w = 4 ∨ w = 5 ∨ w = 6 ∨ w = 12
/-- sorts that are drawn -/
structure SsOk (ss : List So) : Prop where
  l1 : 1 ≤ ss.length
  l4 : ss.length ≤ 4
  w : ∀ s ∈ ss, (WOk s.1 ∨ s.1 = 0) ∧ 1 ≤ s.2 ∧ s.2 ≤ 6
  sea : (ss.filter fun s => decide (s.1 = 0)).length ≤ 1
  land : ∃ s ∈ ss, WOk s.1
def partI (g : Int) (s : So) : Int := if 0 < s.1 then s.2 * (g / s.1) else 0
/-- how many grains of two widths make 1 -/
def grI (w o : Int) : Int := if w = 0 ∨ o = 0 then (if w < o then o else w) else w / ((Nat.gcd w.natAbs o.natAbs : Nat) : Int) * o
theorem gr_tab : ∀ w ∈ [0, 1, 2, 3, 4, 5, 6, 12], ∀ o ∈ [0, 1, 2, 3, 4, 5, 6, 12], w + o ≠ 0 → 1 ≤ grI w o ∧ grI w o ≤ 60 := by decide +kernel
theorem gr_all : ∀ w ∈ List.range 13, ∀ o ∈ List.range 13, w + o ≠ 0 → 1 ≤ grI w o ∧ grI w o ≤ 132 ∧ (0 < w → grI w o % w = 0) ∧ (0 < o → grI w o % o = 0) := by decide +kernel
theorem gr_facts {w o : Int} (w0 : 0 ≤ w) (w1 : w ≤ 12) (o0 : 0 ≤ o) (o1 : o ≤ 12) (h : w + o ≠ 0) : 1 ≤ grI w o ∧ grI w o ≤ 132 ∧ (0 < w → grI w o % w = 0) ∧ (0 < o → grI w o % o = 0) := by
  obtain ⟨w, rfl⟩ := Int.eq_ofNat_of_zero_le w0
  obtain ⟨o, rfl⟩ := Int.eq_ofNat_of_zero_le o0
  have := gr_all w (by simp; omega) o (by simp; omega) (by omega)
  exact ⟨this.1, this.2.1, fun h => this.2.2.1 (by omega), fun h => this.2.2.2 (by omega)⟩
/-- top and bottom, not in lowest terms, of what a sort is of a room -/
def partN (s : So) : Int × Int := if 0 < s.1 then (s.2, s.1) else (0, 1)
def roomN (s t : So) : Int × Int := ((partN s).1 * (partN t).2 + (partN t).1 * (partN s).2, (partN s).2 * (partN t).2)
theorem part_eq {g : Int} {s : So} (h : 0 ≤ s.1) (hg : 0 < s.1 → g % s.1 = 0) : partI g s * (partN s).2 = (partN s).1 * g ∧ 0 < (partN s).2 := by
  unfold partI partN
  split
  · rename_i w
    refine ⟨?_, w⟩
    show s.2 * (g / s.1) * s.1 = s.2 * g
    rw [Int.mul_assoc, Int.ediv_mul_cancel (Int.dvd_of_emod_eq_zero (hg w))]
  · exact ⟨by simp, by decide⟩
/-- the room in grains -/
def roomG (s t : So) : Int := partI (grI s.1 t.1) s + partI (grI s.1 t.1) t
theorem room_nf {s t : So} (hs : 0 ≤ s.1 ∧ s.1 ≤ 12 ∧ 1 ≤ s.2 ∧ s.2 ≤ 6) (ht : 0 ≤ t.1 ∧ t.1 ≤ 12 ∧ 1 ≤ t.2 ∧ t.2 ≤ 6) (h : ¬ (s.1 = 0 ∧ t.1 = 0)) : nf (roomN s t).1 (roomN s t).2 = nf (roomG s t) (grI s.1 t.1) := by
  unfold roomG
  obtain ⟨g1, g2, g3, g4⟩ := gr_facts hs.1 hs.2.1 ht.1 ht.2.1 (by omega)
  obtain ⟨a1, a2⟩ := part_eq (g := grI s.1 t.1) hs.1 g3
  obtain ⟨b1, b2⟩ := part_eq (g := grI s.1 t.1) ht.1 g4
  refine nf_eq (Int.mul_pos a2 b2) (by omega) ?_
  show ((partN s).1 * (partN t).2 + (partN t).1 * (partN s).2) * grI s.1 t.1 = (partI (grI s.1 t.1) s + partI (grI s.1 t.1) t) * ((partN s).2 * (partN t).2)
  rw [Int.add_mul, Int.add_mul]
  congr 1
  · calc (partN s).1 * (partN t).2 * grI s.1 t.1 = ((partN s).1 * grI s.1 t.1) * (partN t).2 := by ac_rfl
      _ = (partI (grI s.1 t.1) s * (partN s).2) * (partN t).2 := by rw [a1]
      _ = _ := by ac_rfl
  · calc (partN t).1 * (partN s).2 * grI s.1 t.1 = ((partN t).1 * grI s.1 t.1) * (partN s).2 := by ac_rfl
      _ = (partI (grI s.1 t.1) t * (partN t).2) * (partN s).2 := by rw [b1]
      _ = _ := by ac_rfl
theorem part_b {g : Int} {s : So} (h : 0 ≤ s.1 ∧ s.1 ≤ 12 ∧ 1 ≤ s.2 ∧ s.2 ≤ 6) (h0 : 0 ≤ g) (k : Int) (hk : g ≤ k) : 0 ≤ partI g s ∧ partI g s ≤ 6 * k := by
  unfold partI
  split
  · have d0 : 0 ≤ g / s.1 := Int.ediv_nonneg h0 h.1
    have d1 : g / s.1 ≤ g := Int.ediv_le_self _ h0
    exact ⟨Int.mul_nonneg (by omega) d0, Int.mul_le_mul h.2.2.2 (by omega) d0 (by decide)⟩
  · omega
theorem roomG_b {s t : So} (hs : 0 ≤ s.1 ∧ s.1 ≤ 12 ∧ 1 ≤ s.2 ∧ s.2 ≤ 6) (ht : 0 ≤ t.1 ∧ t.1 ≤ 12 ∧ 1 ≤ t.2 ∧ t.2 ≤ 6) (h : ¬ (s.1 = 0 ∧ t.1 = 0)) : 0 ≤ roomG s t ∧ roomG s t ≤ 1584 := by
  obtain ⟨g1, g2, _⟩ := gr_facts hs.1 hs.2.1 ht.1 ht.2.1 (by omega)
  have := part_b hs (by omega) 132 g2
  have := part_b ht (by omega) 132 g2
  unfold roomG
  omega
theorem gr_lcm : ∀ w ∈ List.range 13, ∀ o ∈ List.range 13, w + o ≠ 0 → ((Nat.lcm (mxI w 1).natAbs (mxI o 1).natAbs : Nat) : Int) = grI w o := by decide +kernel
/-! ## breaches, in grains -/
/-- how many steps are at most this -/
def cntN (l : List Int) (m : Int) : Nat := (l.filter fun x => decide (x ≤ m)).length
/-- the steps with their numbers, each but for those that the next is the same as -/
def onsN : List Int → Nat → List (Int × Nat)
  | [], _ => []
  | [x], k => [(x, k + 1)]
  | x :: y :: r, k => if y = x then onsN (y :: r) (k + 1) else (x, k + 1) :: onsN (y :: r) (k + 1)
def firstB (R : Int) (l : List (Int × Nat)) : Option Int := (l.find? fun p => decide (2 * p.1 ≤ (p.2 : Int) * R)).map (·.1)
theorem cnt_cons {x : Int} {l : List Int} {m : Int} : cntN (x :: l) m = (if x ≤ m then 1 else 0) + cntN l m := by
  unfold cntN
  rw [List.filter_cons]
  by_cases h : x ≤ m
  · simp [h]; omega
  · simp [h]
theorem cnt_zero {l : List Int} {m : Int} (h : ∀ x ∈ l, m < x) : cntN l m = 0 := by
  unfold cntN
  rw [List.length_eq_zero_iff, List.filter_eq_nil_iff]
  intro x hx
  have := h x hx
  simp
  omega
theorem cnt_le (l : List Int) (m : Int) : cntN l m ≤ l.length := List.length_filter_le _ _
def LeastOf (P : Int → Prop) : Option Int → Prop
  | some n => P n ∧ ∀ m, P m → n ≤ m
  | none => ∀ m, ¬ P m
theorem LeastOf.uniq {P : Int → Prop} {a b : Option Int} (h : LeastOf P a) (g : LeastOf P b) : a = b := by
  cases a with
  | none =>
    cases b with
    | none => rfl
    | some n => exact absurd g.1 (h n)
  | some m =>
    cases b with
    | none => exact absurd h.1 (g m)
    | some n => exact congrArg some (Int.le_antisymm (h.2 n g.1) (g.2 m h.1))
theorem LeastOf.congr {P Q : Int → Prop} {a : Option Int} (h : LeastOf P a) (e : ∀ m, P m ↔ Q m) : LeastOf Q a := by
  cases a with
  | none => exact fun m q => h m ((e m).mpr q)
  | some n => exact ⟨(e n).mp h.1, fun m q => h.2 m ((e m).mpr q)⟩
theorem first_least {R : Int} : ∀ (l : List Int) (k : Nat) (x : Int) , (x :: l).Pairwise (· ≤ ·) → LeastOf (fun m => x ≤ m ∧ 2 * m ≤ ((k : Int) + (cntN (x :: l) m : Nat)) * R) (firstB R (onsN (x :: l) k))
  | [], k, x, _ => by
    have c1 : ∀ m, x ≤ m → cntN [x] m = 1 := fun m hm => by rw [cnt_cons, if_pos hm]; rfl
    unfold onsN firstB
    by_cases h : 2 * x ≤ ((k : Int) + 1) * R
    · simp only [List.find?_cons, Int.natCast_add, Int.natCast_one, h, decide_true]
      exact ⟨⟨Int.le_refl _, by rw [c1 x (Int.le_refl _)]; exact h⟩, fun m hm => hm.1⟩
    · simp only [List.find?_cons, Int.natCast_add, Int.natCast_one, h, decide_false]
      rintro m ⟨h1, h2⟩
      rw [c1 m h1] at h2
      have : ((k : Int) + ((1 : Nat) : Int)) * R = ((k : Int) + 1) * R := rfl
      omega
  | y :: r, k, x, hp => by
    obtain ⟨hx, hp2⟩ := List.pairwise_cons.mp hp
    have ih := first_least (R := R) r (k + 1) y hp2
    have xy := hx y (by simp)
    unfold onsN
    by_cases e : y = x
    · rw [if_pos e]
      refine ih.congr fun m => ?_
      subst e
      constructor
      · rintro ⟨h1, h2⟩
        refine ⟨h1, ?_⟩
        rw [cnt_cons, if_pos h1]
        have : ((k : Int) + ((1 + cntN (y :: r) m : Nat) : Int)) = (((k + 1 : Nat) : Int) + (cntN (y :: r) m : Nat)) := by omega
        rw [this]
        exact h2
      · rintro ⟨h1, h2⟩
        refine ⟨h1, ?_⟩
        rw [cnt_cons, if_pos h1] at h2
        have : ((k : Int) + ((1 + cntN (y :: r) m : Nat) : Int)) = (((k + 1 : Nat) : Int) + (cntN (y :: r) m : Nat)) := by omega
        rw [this] at h2
        exact h2
    · rw [if_neg e]
      have lt : x < y := by omega
      have c1 : ∀ m, x ≤ m → m < y → cntN (x :: y :: r) m = 1 := fun m h1 h2 => by
        rw [cnt_cons, if_pos h1, cnt_zero fun z hz => ?_]
        rcases List.mem_cons.mp hz with rfl | hz
        · exact h2
        · have := (List.pairwise_cons.mp hp2).1 z hz
          omega
      have c2 : ∀ m, y ≤ m → ((k : Int) + (cntN (x :: y :: r) m : Nat)) = (((k + 1 : Nat) : Int) + (cntN (y :: r) m : Nat)) := fun m h1 => by
        rw [cnt_cons, if_pos (by omega)]
        omega
      unfold firstB
      rw [List.find?_cons]
      by_cases h : 2 * x ≤ ((k : Int) + 1) * R
      · have h' : decide (2 * (x, k + 1).1 ≤ (((x, k + 1).2 : Nat) : Int) * R) = true := decide_eq_true (by show 2 * x ≤ ((k + 1 : Nat) : Int) * R; rw [Int.natCast_add]; exact h)
        rw [h']
        exact ⟨⟨Int.le_refl _, by rw [c1 x (Int.le_refl _) lt]; exact h⟩, fun m hm => hm.1⟩
      · have h' : decide (2 * (x, k + 1).1 ≤ (((x, k + 1).2 : Nat) : Int) * R) = false := decide_eq_false (by show ¬ 2 * x ≤ ((k + 1 : Nat) : Int) * R; rw [Int.natCast_add]; exact h)
        rw [h']
        refine ih.congr fun m => ?_
        constructor
        · rintro ⟨h1, h2⟩
          exact ⟨by omega, by rw [c2 m h1]; exact h2⟩
        · rintro ⟨h1, h2⟩
          by_cases g : y ≤ m
          · exact ⟨g, by rw [← c2 m g]; exact h2⟩
          · rw [c1 m h1 (by omega)] at h2
            have : ((k : Int) + ((1 : Nat) : Int)) * R = ((k : Int) + 1) * R := rfl
            omega
/-- a threshold in grains, raised -/
def stpI (g : Int) (t : Th) : Int := (t.1 * g + t.2 - 1) / t.2
theorem stp_le {g : Int} {t : Th} {m : Int} (h : 0 < t.2) : stpI g t ≤ m ↔ t.1 * g ≤ m * t.2 := by
  unfold stpI
  constructor
  · intro z
    have : t.1 * g + t.2 - 1 < (m + 1) * t.2 := Int.lt_mul_of_ediv_lt h (by omega)
    rw [Int.add_mul] at this
    omega
  · intro z
    have : (t.1 * g + t.2 - 1) / t.2 < m + 1 := Int.ediv_lt_of_lt_mul h (by rw [Int.add_mul]; omega)
    omega
theorem stp_mono {g : Int} {a b : Th} (ha : 0 < a.2) (hb : 0 < b.2) (hg : 0 ≤ g) (h : a.1 * b.2 ≤ b.1 * a.2) : stpI g a ≤ stpI g b := by
  rw [stp_le ha]
  have e := (stp_le (g := g) (m := stpI g b) hb).mp (Int.le_refl _)
  have e1 := Int.mul_le_mul_of_nonneg_right h hg
  have e2 := Int.mul_le_mul_of_nonneg_right e (Int.le_of_lt ha)
  have : (a.1 * g) * b.2 ≤ (stpI g b * a.2) * b.2 := by
    calc a.1 * g * b.2 = a.1 * b.2 * g := by ac_rfl
      _ ≤ b.1 * a.2 * g := e1
      _ = b.1 * g * a.2 := by ac_rfl
      _ ≤ stpI g b * b.2 * a.2 := e2
      _ = stpI g b * a.2 * b.2 := by ac_rfl
  exact Int.le_of_mul_le_mul_right this hb
theorem stp_pos {g : Int} {t : Th} (h : 0 < t.2) (h1 : 1 ≤ t.1) (hg : 1 ≤ g) : 1 ≤ stpI g t := by
  refine Int.not_lt.mp fun z => ?_
  have := (stp_le (g := g) (m := 0) h).mp (by omega)
  have := Int.mul_pos (show 0 < t.1 by omega) (show 0 < g by omega)
  omega
/-- how many measures run at so many grains -/
def flowI (ts : List Th) (g m : Int) : Nat := (ts.filter fun t => decide (t.1 * g ≤ m * t.2)).length
theorem flow_cnt {ts : List Th} {g m : Int} (h : ∀ t ∈ ts, 0 < t.2) : flowI ts g m = cntN (ts.map (stpI g)) m := by
  unfold flowI cntN
  rw [List.filter_map, List.length_map]
  congr 1
  refine List.filter_congr fun t ht => ?_
  have := stp_le (g := g) (m := m) (h t ht)
  simp [this]
/-- a breach, in grains -/
def BrN (ts : List Th) (g R m : Int) : Prop := 1 ≤ m ∧ 2 * m ≤ (flowI ts g m : Int) * R
/-- the least breach, in grains -/
def leastN (ts : List Th) (g R : Int) : Option Int := firstB R (onsN (ts.map (stpI g)) 0)
theorem least_ok {ts : List Th} {g R : Int} (hn : ts ≠ []) (h : ∀ t ∈ ts, 0 < t.2 ∧ 1 ≤ t.1) (hs : ts.Pairwise fun a b => a.1 * b.2 ≤ b.1 * a.2) (hg : 1 ≤ g) : LeastOf (BrN ts g R) (leastN ts g R) := by
  cases ts with
  | nil => exact absurd rfl hn
  | cons t r =>
    have hp : ((t :: r).map (stpI g)).Pairwise (· ≤ ·) := by
      rw [List.pairwise_map]
      exact hs.imp_of_mem fun {a b} ha hb hab => stp_mono (h a ha).1 (h b hb).1 (by omega) hab
    have f := first_least (R := R) (r.map (stpI g)) 0 (stpI g t) hp
    refine f.congr fun m => ?_
    have fc : flowI (t :: r) g m = cntN (stpI g t :: r.map (stpI g)) m := flow_cnt fun t ht => (h t ht).1
    have p1 := stp_pos (g := g) (h t (by simp)).1 (h t (by simp)).2 hg
    unfold BrN
    rw [fc]
    constructor
    · rintro ⟨h1, h2⟩
      exact ⟨by omega, by simpa using h2⟩
    · rintro ⟨h1, h2⟩
      refine ⟨?_, by simpa using h2⟩
      refine Int.not_lt.mp fun z => ?_
      rw [cnt_zero fun x hx => ?_] at h2
      · simp at h2; omega
      · rcases List.mem_cons.mp hx with rfl | hx
        · exact z
        · have := (List.pairwise_cons.mp hp).1 x hx
          omega
theorem br_bound {ts : List Th} {g R m : Int} (h : BrN ts g R m) (hR : 0 ≤ R) : m ≤ (ts.length : Int) * R / 2 := by
  obtain ⟨h1, h2⟩ := h
  have : (flowI ts g m : Int) ≤ (ts.length : Int) := by
    have := List.length_filter_le (fun t : Th => decide (t.1 * g ≤ m * t.2)) ts
    unfold flowI
    omega
  have := Int.mul_le_mul_of_nonneg_right this hR
  omega
theorem divw {i j : Int} (h : 0 < j) (h2 : j < 2 ^ 30) : CDivW i j := wide_div h (b := 30) (by omega) (by decide) (by decide)
theorem pow6 : (10 : Int) ^ Int.toNat 6 = 1000000 := by decide +kernel
end

structure CT where
  C_NoSort : Addr
  C_NotCalm : Addr
  C_Book : Addr
  C_TidesError : Addr
  C_BadBook : Addr
structure Txt (K : PySem.W.Frag) (mg : Str → Option Value) where
  f_is_integer : Addr
  fd_is_integer : FuncData
  F_is_integer : Fun K "is_integer" "is_integer" (topS 2) f_is_integer fd_is_integer
  b_is_integer : Binds K fd_is_integer ["thing"] []
  g_is_integer : mg "is_integer" = some (.ref f_is_integer)
  k_is_integer : PySem.W.keepIn K (.ref f_is_integer) = true
  f_is_between : Addr
  fd_is_between : FuncData
  F_is_between : Fun K "is_between" "is_between" (topS 3) f_is_between fd_is_between
  b_is_between : Binds K fd_is_between ["low", "high", "thing"] []
  g_is_between : mg "is_between" = some (.ref f_is_between)
  k_is_between : PySem.W.keepIn K (.ref f_is_between) = true
  f_is_tuple_of : Addr
  fd_is_tuple_of : FuncData
  F_is_tuple_of : Fun K "is_tuple_of" "is_tuple_of" (topS 4) f_is_tuple_of fd_is_tuple_of
  b_is_tuple_of : Binds K fd_is_tuple_of ["low", "high", "thing"] []
  g_is_tuple_of : mg "is_tuple_of" = some (.ref f_is_tuple_of)
  k_is_tuple_of : PySem.W.keepIn K (.ref f_is_tuple_of) = true
  f_is_fraction : Addr
  fd_is_fraction : FuncData
  F_is_fraction : Fun K "is_fraction" "is_fraction" (topS 5) f_is_fraction fd_is_fraction
  b_is_fraction : Binds K fd_is_fraction ["thing"] []
  g_is_fraction : mg "is_fraction" = some (.ref f_is_fraction)
  k_is_fraction : PySem.W.keepIn K (.ref f_is_fraction) = true
  f_at_most : Addr
  fd_at_most : FuncData
  F_at_most : Fun K "at_most" "at_most" (topS 11) f_at_most fd_at_most
  b_at_most : Binds K fd_at_most ["one", "other"] []
  g_at_most : mg "at_most" = some (.ref f_at_most)
  k_at_most : PySem.W.keepIn K (.ref f_at_most) = true
  f_is_threshold : Addr
  fd_is_threshold : FuncData
  F_is_threshold : Fun K "is_threshold" "is_threshold" (topS 22) f_is_threshold fd_is_threshold
  b_is_threshold : Binds K fd_is_threshold ["thing"] []
  g_is_threshold : mg "is_threshold" = some (.ref f_is_threshold)
  k_is_threshold : PySem.W.keepIn K (.ref f_is_threshold) = true
  f_is_list : Addr
  fd_is_list : FuncData
  F_is_list : Fun K "is_list" "is_list" (topS 23) f_is_list fd_is_list
  b_is_list : Binds K fd_is_list ["thing"] []
  g_is_list : mg "is_list" = some (.ref f_is_list)
  k_is_list : PySem.W.keepIn K (.ref f_is_list) = true
  f_ascends : Addr
  fd_ascends : FuncData
  F_ascends : Fun K "ascends" "ascends" (topS 6) f_ascends fd_ascends
  b_ascends : Binds K fd_ascends ["things"] []
  g_ascends : mg "ascends" = some (.ref f_ascends)
  k_ascends : PySem.W.keepIn K (.ref f_ascends) = true
  f_is_width : Addr
  fd_is_width : FuncData
  F_is_width : Fun K "is_width" "is_width" (topS 24) f_is_width fd_is_width
  b_is_width : Binds K fd_is_width ["thing"] []
  g_is_width : mg "is_width" = some (.ref f_is_width)
  k_is_width : PySem.W.keepIn K (.ref f_is_width) = true
  f_is_sort : Addr
  fd_is_sort : FuncData
  F_is_sort : Fun K "is_sort" "is_sort" (topS 32) f_is_sort fd_is_sort
  b_is_sort : Binds K fd_is_sort ["thing"] []
  g_is_sort : mg "is_sort" = some (.ref f_is_sort)
  k_is_sort : PySem.W.keepIn K (.ref f_is_sort) = true
  f_is_sort_tuple : Addr
  fd_is_sort_tuple : FuncData
  F_is_sort_tuple : Fun K "is_sort_tuple" "is_sort_tuple" (topS 33) f_is_sort_tuple fd_is_sort_tuple
  b_is_sort_tuple : Binds K fd_is_sort_tuple ["thing"] []
  g_is_sort_tuple : mg "is_sort_tuple" = some (.ref f_is_sort_tuple)
  k_is_sort_tuple : PySem.W.keepIn K (.ref f_is_sort_tuple) = true
  f_is_join : Addr
  fd_is_join : FuncData
  F_is_join : Fun K "is_join" "is_join" (topS 34) f_is_join fd_is_join
  b_is_join : Binds K fd_is_join ["sorts", "thing"] []
  g_is_join : mg "is_join" = some (.ref f_is_join)
  k_is_join : PySem.W.keepIn K (.ref f_is_join) = true
  f_is_kind : Addr
  fd_is_kind : FuncData
  F_is_kind : Fun K "is_kind" "is_kind" (topS 35) f_is_kind fd_is_kind
  b_is_kind : Binds K fd_is_kind ["sorts", "thing"] []
  g_is_kind : mg "is_kind" = some (.ref f_is_kind)
  k_is_kind : PySem.W.keepIn K (.ref f_is_kind) = true
  f_Book__init__ : Addr
  fd_Book__init__ : FuncData
  F_Book__init__ : Fun K "__init__" "Book.__init__" (inClass (topS 36) 0) f_Book__init__ fd_Book__init__
  b_Book__init__ : Binds K fd_Book__init__ ["self", "sorts", "kinds"] []
  f_Book__eq__ : Addr
  fd_Book__eq__ : FuncData
  F_Book__eq__ : Fun K "__eq__" "Book.__eq__" (inClass (topS 36) 1) f_Book__eq__ fd_Book__eq__
  b_Book__eq__ : Binds K fd_Book__eq__ ["self", "other"] []
  f_fraction : Addr
  fd_fraction : FuncData
  F_fraction : Fun K "fraction" "fraction" (topS 7) f_fraction fd_fraction
  b_fraction : Binds K fd_fraction ["top", "bottom"] []
  g_fraction : mg "fraction" = some (.ref f_fraction)
  k_fraction : PySem.W.keepIn K (.ref f_fraction) = true
  f_plus : Addr
  fd_plus : FuncData
  F_plus : Fun K "plus" "plus" (topS 8) f_plus fd_plus
  b_plus : Binds K fd_plus ["one", "other"] []
  g_plus : mg "plus" = some (.ref f_plus)
  k_plus : PySem.W.keepIn K (.ref f_plus) = true
  f_minus : Addr
  fd_minus : FuncData
  F_minus : Fun K "minus" "minus" (topS 9) f_minus fd_minus
  b_minus : Binds K fd_minus ["one", "other"] []
  g_minus : mg "minus" = some (.ref f_minus)
  k_minus : PySem.W.keepIn K (.ref f_minus) = true
  f_times : Addr
  fd_times : FuncData
  F_times : Fun K "times" "times" (topS 10) f_times fd_times
  b_times : Binds K fd_times ["number", "part"] []
  g_times : mg "times" = some (.ref f_times)
  k_times : PySem.W.keepIn K (.ref f_times) = true
  f_grains_in_one : Addr
  fd_grains_in_one : FuncData
  F_grains_in_one : Fun K "grains_in_one" "grains_in_one" (topS 25) f_grains_in_one fd_grains_in_one
  b_grains_in_one : Binds K fd_grains_in_one ["width", "other"] []
  g_grains_in_one : mg "grains_in_one" = some (.ref f_grains_in_one)
  k_grains_in_one : PySem.W.keepIn K (.ref f_grains_in_one) = true
  f_in_grains : Addr
  fd_in_grains : FuncData
  F_in_grains : Fun K "in_grains" "in_grains" (topS 26) f_in_grains fd_in_grains
  b_in_grains : Binds K fd_in_grains ["thresholds", "many"] []
  g_in_grains : mg "in_grains" = some (.ref f_in_grains)
  k_in_grains : PySem.W.keepIn K (.ref f_in_grains) = true
  f_rounded_up : Addr
  fd_rounded_up : FuncData
  F_rounded_up : Fun K "rounded_up" "rounded_up" (topS 27) f_rounded_up fd_rounded_up
  b_rounded_up : Binds K fd_rounded_up ["thresholds", "many"] []
  g_rounded_up : mg "rounded_up" = some (.ref f_rounded_up)
  k_rounded_up : PySem.W.keepIn K (.ref f_rounded_up) = true
  f_is_sort_number : Addr
  fd_is_sort_number : FuncData
  F_is_sort_number : Fun K "is_sort_number" "is_sort_number" (topS 39) f_is_sort_number fd_is_sort_number
  b_is_sort_number : Binds K fd_is_sort_number ["book", "thing"] []
  g_is_sort_number : mg "is_sort_number" = some (.ref f_is_sort_number)
  k_is_sort_number : PySem.W.keepIn K (.ref f_is_sort_number) = true
  f_check_pair : Addr
  fd_check_pair : FuncData
  F_check_pair : Fun K "check_pair" "check_pair" (topS 40) f_check_pair fd_check_pair
  b_check_pair : Binds K fd_check_pair ["book", "i", "j"] []
  g_check_pair : mg "check_pair" = some (.ref f_check_pair)
  k_check_pair : PySem.W.keepIn K (.ref f_check_pair) = true
  f_part_of : Addr
  fd_part_of : FuncData
  F_part_of : Fun K "part_of" "part_of" (topS 41) f_part_of fd_part_of
  b_part_of : Binds K fd_part_of ["sort"] []
  g_part_of : mg "part_of" = some (.ref f_part_of)
  k_part_of : PySem.W.keepIn K (.ref f_part_of) = true
  f_room_of : Addr
  fd_room_of : FuncData
  F_room_of : Fun K "room_of" "room_of" (topS 42) f_room_of fd_room_of
  b_room_of : Binds K fd_room_of ["sorts", "i", "j"] []
  g_room_of : mg "room_of" = some (.ref f_room_of)
  k_room_of : PySem.W.keepIn K (.ref f_room_of) = true
  f_room : Addr
  fd_room : FuncData
  F_room : Fun K "room" "room" (topS 43) f_room fd_room
  b_room : Binds K fd_room ["book", "i", "j"] []
  g_room : mg "room" = some (.ref f_room)
  k_room : PySem.W.keepIn K (.ref f_room) = true
  f_grains_of : Addr
  fd_grains_of : FuncData
  F_grains_of : Fun K "grains_of" "grains_of" (topS 44) f_grains_of fd_grains_of
  b_grains_of : Binds K fd_grains_of ["sorts", "i", "j"] []
  g_grains_of : mg "grains_of" = some (.ref f_grains_of)
  k_grains_of : PySem.W.keepIn K (.ref f_grains_of) = true
  f_onsets : Addr
  fd_onsets : FuncData
  F_onsets : Fun K "onsets" "onsets" (topS 45) f_onsets fd_onsets
  b_onsets : Binds K fd_onsets ["thresholds", "many"] []
  g_onsets : mg "onsets" = some (.ref f_onsets)
  k_onsets : PySem.W.keepIn K (.ref f_onsets) = true
  f_overshoots : Addr
  fd_overshoots : FuncData
  F_overshoots : Fun K "overshoots" "overshoots" (topS 46) f_overshoots fd_overshoots
  b_overshoots : Binds K fd_overshoots ["space", "drop", "many"] []
  g_overshoots : mg "overshoots" = some (.ref f_overshoots)
  k_overshoots : PySem.W.keepIn K (.ref f_overshoots) = true
  f_least_breach : Addr
  fd_least_breach : FuncData
  F_least_breach : Fun K "least_breach" "least_breach" (topS 47) f_least_breach fd_least_breach
  b_least_breach : Binds K fd_least_breach ["sorts", "thresholds", "join"] []
  g_least_breach : mg "least_breach" = some (.ref f_least_breach)
  k_least_breach : PySem.W.keepIn K (.ref f_least_breach) = true
  f_calm_kind : Addr
  fd_calm_kind : FuncData
  F_calm_kind : Fun K "calm_kind" "calm_kind" (topS 48) f_calm_kind fd_calm_kind
  b_calm_kind : Binds K fd_calm_kind ["sorts", "kind"] []
  g_calm_kind : mg "calm_kind" = some (.ref f_calm_kind)
  k_calm_kind : PySem.W.keepIn K (.ref f_calm_kind) = true
  f_calm : Addr
  fd_calm : FuncData
  F_calm : Fun K "calm" "calm" (topS 50) f_calm fd_calm
  b_calm : Binds K fd_calm ["book"] []
  g_calm : mg "calm" = some (.ref f_calm)
  k_calm : PySem.W.keepIn K (.ref f_calm) = true
  f_calm_singly : Addr
  fd_calm_singly : FuncData
  F_calm_singly : Fun K "calm_singly" "calm_singly" (topS 51) f_calm_singly fd_calm_singly
  b_calm_singly : Binds K fd_calm_singly ["book"] []
  g_calm_singly : mg "calm_singly" = some (.ref f_calm_singly)
  k_calm_singly : PySem.W.keepIn K (.ref f_calm_singly) = true
  f_breach : Addr
  fd_breach : FuncData
  F_breach : Fun K "breach" "breach" (topS 49) f_breach fd_breach
  b_breach : Binds K fd_breach ["book"] []
  g_breach : mg "breach" = some (.ref f_breach)
  k_breach : PySem.W.keepIn K (.ref f_breach) = true
  f_loss_of : Addr
  fd_loss_of : FuncData
  F_loss_of : Fun K "loss_of" "loss_of" (topS 52) f_loss_of fd_loss_of
  b_loss_of : Binds K fd_loss_of ["book"] []
  g_loss_of : mg "loss_of" = some (.ref f_loss_of)
  k_loss_of : PySem.W.keepIn K (.ref f_loss_of) = true
  f_loss : Addr
  fd_loss : FuncData
  F_loss : Fun K "loss" "loss" (topS 53) f_loss fd_loss
  b_loss : Binds K fd_loss ["book"] []
  g_loss : mg "loss" = some (.ref f_loss)
  k_loss : PySem.W.keepIn K (.ref f_loss) = true
  f__law_pool : Addr
  fd__law_pool : FuncData
  F__law_pool : Fun K "_law_pool" "_law_pool" (topS 55) f__law_pool fd__law_pool
  b__law_pool : Binds K fd__law_pool ["script"] []
  g__law_pool : mg "_law_pool" = some (.ref f__law_pool)
  k__law_pool : PySem.W.keepIn K (.ref f__law_pool) = true
  f__law_draw : Addr
  fd__law_draw : FuncData
  F__law_draw : Fun K "_law_draw" "_law_draw" (topS 56) f__law_draw fd__law_draw
  b__law_draw : Binds K fd__law_draw ["pool", "many"] []
  g__law_draw : mg "_law_draw" = some (.ref f__law_draw)
  k__law_draw : PySem.W.keepIn K (.ref f__law_draw) = true
  f__law_divisor : Addr
  fd__law_divisor : FuncData
  F__law_divisor : Fun K "_law_divisor" "_law_divisor" (topS 57) f__law_divisor fd__law_divisor
  b__law_divisor : Binds K fd__law_divisor ["one", "other"] []
  g__law_divisor : mg "_law_divisor" = some (.ref f__law_divisor)
  k__law_divisor : PySem.W.keepIn K (.ref f__law_divisor) = true
  f__law_lowest : Addr
  fd__law_lowest : FuncData
  F__law_lowest : Fun K "_law_lowest" "_law_lowest" (topS 58) f__law_lowest fd__law_lowest
  b__law_lowest : Binds K fd__law_lowest ["top", "bottom"] []
  g__law_lowest : mg "_law_lowest" = some (.ref f__law_lowest)
  k__law_lowest : PySem.W.keepIn K (.ref f__law_lowest) = true
  f__law_grains : Addr
  fd__law_grains : FuncData
  F__law_grains : Fun K "_law_grains" "_law_grains" (topS 59) f__law_grains fd__law_grains
  b__law_grains : Binds K fd__law_grains ["width", "other"] []
  g__law_grains : mg "_law_grains" = some (.ref f__law_grains)
  k__law_grains : PySem.W.keepIn K (.ref f__law_grains) = true
  f__law_room : Addr
  fd__law_room : FuncData
  F__law_room : Fun K "_law_room" "_law_room" (topS 60) f__law_room fd__law_room
  b__law_room : Binds K fd__law_room ["sorts", "pair", "grains"] []
  g__law_room : mg "_law_room" = some (.ref f__law_room)
  k__law_room : PySem.W.keepIn K (.ref f__law_room) = true
  f__law_ascending : Addr
  fd__law_ascending : FuncData
  F__law_ascending : Fun K "_law_ascending" "_law_ascending" (topS 61) f__law_ascending fd__law_ascending
  b__law_ascending : Binds K fd__law_ascending ["steps"] []
  g__law_ascending : mg "_law_ascending" = some (.ref f__law_ascending)
  k__law_ascending : PySem.W.keepIn K (.ref f__law_ascending) = true
  f__law_flag : Addr
  fd__law_flag : FuncData
  F__law_flag : Fun K "_law_flag" "_law_flag" (topS 62) f__law_flag fd__law_flag
  b__law_flag : Binds K fd__law_flag ["told", "due"] []
  g__law_flag : mg "_law_flag" = some (.ref f__law_flag)
  k__law_flag : PySem.W.keepIn K (.ref f__law_flag) = true
  f__law_one_right : Addr
  fd__law_one_right : FuncData
  F__law_one_right : Fun K "_law_one_right" "_law_one_right" (topS 63) f__law_one_right fd__law_one_right
  b__law_one_right : Binds K fd__law_one_right ["pool"] []
  g__law_one_right : mg "_law_one_right" = some (.ref f__law_one_right)
  k__law_one_right : PySem.W.keepIn K (.ref f__law_one_right) = true
  f__law_sea_right : Addr
  fd__law_sea_right : FuncData
  F__law_sea_right : Fun K "_law_sea_right" "_law_sea_right" (topS 64) f__law_sea_right fd__law_sea_right
  b__law_sea_right : Binds K fd__law_sea_right ["pool"] []
  g__law_sea_right : mg "_law_sea_right" = some (.ref f__law_sea_right)
  k__law_sea_right : PySem.W.keepIn K (.ref f__law_sea_right) = true
  f__law_two_right : Addr
  fd__law_two_right : FuncData
  F__law_two_right : Fun K "_law_two_right" "_law_two_right" (topS 65) f__law_two_right fd__law_two_right
  b__law_two_right : Binds K fd__law_two_right ["pool"] []
  g__law_two_right : mg "_law_two_right" = some (.ref f__law_two_right)
  k__law_two_right : PySem.W.keepIn K (.ref f__law_two_right) = true
  Z : CT
  fi_NoSort : Addr
  x_NoSort : Exc0 K mg "NoSort" "NoSort.__init__" Z.C_NoSort fi_NoSort
  fi_NotCalm : Addr
  x_NotCalm : Exc0 K mg "NotCalm" "NotCalm.__init__" Z.C_NotCalm fi_NotCalm
  cm_Book : Mk K Z.C_Book f_Book__init__
  gc_Book : mg "Book" = some (.ref Z.C_Book)
  it_Book : InsTy K Z.C_Book
  ok_Book : OkD K (.oth (.ref Z.C_Book))
  gc_TidesError : mg "TidesError" = some (.ref Z.C_TidesError)
  fi_BadBook : Addr
  fdx_BadBook : FuncData
  Fx_BadBook : Fun K "__init__" "BadBook.__init__" (inClass (topS 14) 0) fi_BadBook fdx_BadBook
  bx_BadBook : Binds K fdx_BadBook ["self", "part"] []
  gx_BadBook : mg "BadBook" = some (.ref Z.C_BadBook)
  ox_BadBook : OexC K Z.C_BadBook
  xi_BadBook : PySem.W.findIn K (.ref Z.C_BadBook) "__init__" = some (some (.ref fi_BadBook))
  xt_BadBook : PySem.W.typeIn K (.ref fi_BadBook) = some (.type "function")
  no_BadBook : PySem.W.findIn K (.ref Z.C_BadBook) "part" = some none
  xf_BadBook : L2.XfC K Z.C_BadBook
  na_Book_kinds : NoAttr K Z.C_Book "kinds"
  na_Book_sorts : NoAttr K Z.C_Book "sorts"
  z_abs : mg "abs" = none
  z_all : mg "all" = none
  z_bool : mg "bool" = none
  z_enumerate : mg "enumerate" = none
  z_int : mg "int" = none
  z_isinstance : mg "isinstance" = none
  z_len : mg "len" = none
  z_list : mg "list" = none
  z_max : mg "max" = none
  z_range : mg "range" = none
  z_tuple : mg "tuple" = none
  z_zip : mg "zip" = none
  t_MOST_BOTTOM : Tok
  c_MOST_BOTTOM : mg "MOST_BOTTOM" = some (.int 144 t_MOST_BOTTOM)
  t_MOST_CAP : Tok
  c_MOST_CAP : mg "MOST_CAP" = some (.int 6 t_MOST_CAP)
  t_MOST_KINDS : Tok
  c_MOST_KINDS : mg "MOST_KINDS" = some (.int 5 t_MOST_KINDS)
  t_MOST_SORTS : Tok
  c_MOST_SORTS : mg "MOST_SORTS" = some (.int 4 t_MOST_SORTS)
  t_MOST_THRESHOLDS : Tok
  c_MOST_THRESHOLDS : mg "MOST_THRESHOLDS" = some (.int 6 t_MOST_THRESHOLDS)
  t_MOST_TOP : Tok
  c_MOST_TOP : mg "MOST_TOP" = some (.int 1000000 t_MOST_TOP)
  t_MOST_WIDTH : Tok
  c_MOST_WIDTH : mg "MOST_WIDTH" = some (.int 12 t_MOST_WIDTH)
  tp_NOTHING : Addr
  mt_NOTHING : mg "NOTHING" = some (.ref tp_NOTHING)
  rt_NOTHING : ∀ F, Rep K F (.ref tp_NOTHING) (.tup [.int 0, .int 1])
  m_gcd : mg "gcd" = some (.builtin "math.gcd")
  m_lcm : mg "lcm" = some (.builtin "math.lcm")
abbrev sx_BadBook : Stmt := inClass (topS 14) 0
theorem scx_BadBook : FnScope ["self", "part"] ["self", "part"] (defScope sx_BadBook) := ⟨rfl, rfl, rfl, by decide +kernel, rfl, by decide +kernel, by decide +kernel⟩
theorem okx_BadBook [TB : TabT] {P : Program} {w : World} {K : PySem.W.Frag} {mg : Str → Option Value} {base : Heap} (T : Txt K mg) : FnOk P w K mg base (L2.CX P w) 1 T.fi_BadBook T.fdx_BadBook ["self", "part"] (spX1 K T.Z.C_BadBook "part") := exc1_ok T.Fx_BadBook scx_BadBook rfl (by decide) (fun _ => rfl) T.ox_BadBook T.no_BadBook fun _ _ _ _ _ _ => ⟨pv 0, pv 1⟩
section
variable [TB : TabT] {P : Program} {w : World} {K : PySem.W.Frag} {mg : Str → Option Value} {base : Heap}
abbrev s_is_integer : Stmt := topS 2
theorem sc_is_integer : FnScope ["thing"] ["thing"] (defScope s_is_integer) := ⟨rfl, rfl, rfl, by decide +kernel, rfl, by decide +kernel, by decide +kernel⟩
def w_is_integer (K : PySem.W.Frag) : SW := (wRet (wAndV (wCB (gIsi K) (wCons (wVar 0) (wCons (wC (.ty "int")) wNil))) (wNotV (wCB (gIsi K) (wCons (wVar 0) (wCons (wC (.ty "bool")) wNil))))))
def isIntD : D → Bool | .int _ => true | _ => false
def fs_is_integer (K : PySem.W.Frag) : FS := fun cs q _ => ∃ d, cs = [.dat d] ∧ OkD K d ∧ q (.bl (isIntD d)) [.dat d]
theorem pure_is_integer : PureD 1 0 (fs_is_integer K) (w_is_integer K) := by
  rintro cs q e - ⟨d, rfl, hd, hq⟩
  simp only [w_is_integer, gIsi_iff hd (show "int" ∈ kinds by simp), gIsi_iff hd (show "bool" ∈ kinds by simp), gIsB, gNotB, D.adr.injEq, Cont.pool.injEq, ixN31, ne_eq, List.map_cons, List.map_nil, wPoolOpen, wPoolClose, wPop0, wPopTo, wListOwn, wRemove, wRaise0, wRaise1, wAugOwn, wEnumL, wTru, wSlA, gCatA, gLtT, gLeT, wFrz, wChain3, wAttr, wMkF, wEnumT, wRevT, wDict0, wDict1, numD3, Nat.reduceAdd, atI0, atI1, atI2, atI3, atI4, ixN51, ixN52, ixN53, List.length_map, wNever, scal, V.int.injEq, V.str.injEq, V.bl.injEq, wSq, wNext, wBreak, wCont, wDrop, wRet, wRetN, wIfS, wAsg, wPar, wLstOwn, wAppend, wSetOwn, wIxOwn, wPeek, wRetOwn, wRetFr, wFor, wB, wNot, wAnd, wOr, wAndV, wOrV, wNotV, wIf, wChain, wNil, wCons, wCB, wTup, wLst, wNoPart, wPart, wSlT, wSlL, wSeq, wRng1, wRng2, wZip, wName, wNilT, wConsT, wTupT, wYes, wNeg, wVar, wC, wOp, wcNil, wcCons, wcOwn, wCall, wCallOwn, slots, cellsOf, OwnArgs, putBack, g2I, g2IC, gLen, gAbs, gGcd, gInt1, gTupleOf, gListOf, gIx, gCatT, gCat, gEq, gNe, gIsN, gNotN, scD, seqD_t, seqD_l, seqD_f, isNonD, List.nodup_cons, List.mem_cons, List.not_mem_nil, or_false, not_false_eq_true, Nat.reduceEqDiff, L3.Keeps, ends, wipeD, List.replicate, List.cons_append, List.nil_append, List.append_nil, List.getElem?_cons_zero, List.getElem?_cons_succ, List.set_cons_zero, List.set_cons_succ, List.getD_cons_zero, List.getD_cons_succ, List.length_cons, List.length_nil, List.nodup_nil, Option.some.injEq, Cell.dat.injEq, Cell.own.injEq, Cont.lst.injEq, D.bl.injEq, D.int.injEq, D.str.injEq, D.tup.injEq, D.lst.injEq, Arg.d.injEq, List.cons.injEq, exists_and_left, exists_and_right, exists_eq_left', exists_eq_left, exists_eq_right, exists_eq_right', exists_eq, exists_eq', and_true, true_and, and_assoc, and_self, exists_const, reduceCtorEq]
  cases d <;> simp_all [isiD, isIntD]
theorem ok_is_integer (T : Txt K mg) : FnOk P w K mg base (L2.CX P w) 1 T.f_is_integer T.fd_is_integer ["thing"] (spOf K 1 (fs_is_integer K)) := by
  refine def_ok T.F_is_integer sc_is_integer (wb := w_is_integer K) pure_is_integer ?_
  intro cdv A outer s H E hr tk
  exact ⟨_, (pss_one (ps_ret (pe_and (pe_callB call_isi (by rfl) T.z_isinstance (by decide +kernel) (pa_cons (pv 0) (pa_cons (pe_bltn (v := .ty "int") (by rfl) T.z_int (by decide +kernel) rfl) pa_nil))) (pe_one (pe_not (pe_callB call_isi (by rfl) T.z_isinstance (by decide +kernel) (pa_cons (pv 0) (pa_cons (pe_bltn (v := .ty "bool") (by rfl) T.z_bool (by decide +kernel) rfl) pa_nil)))))))),
    (ds_ret (de_and (de_cb o_isi (da_cons (de_var 0) (da_cons de_ty da_nil))) (de_not (de_cb o_isi (da_cons (de_var 0) (da_cons de_ty da_nil))))))⟩
abbrev s_is_between : Stmt := topS 3
theorem sc_is_between : FnScope ["low", "high", "thing"] ["low", "high", "thing"] (defScope s_is_between) := ⟨rfl, rfl, rfl, by decide +kernel, rfl, by decide +kernel, by decide +kernel⟩
def w_is_between (K : PySem.W.Frag) : SW := (wRet (wAndV (wCall 1 (fs_is_integer K) (wcCons (wVar 2) wcNil)) (wChain gLeI gLeI (wVar 0) (wVar 2) (wVar 1))))
def isBetw (l h : Int) : D → Bool | .int i => decide (l ≤ i) && decide (i ≤ h) | _ => false
def fs_is_between (K : PySem.W.Frag) : FS := fun cs q _ => ∃ (l h : Int) (d : D), cs = [.dat (.int l), .dat (.int h), .dat d] ∧ OkD K d ∧ q (.bl (isBetw l h d)) cs
theorem pure_is_between : PureD 3 0 (fs_is_between K) (w_is_between K) := by
  rintro cs q e - ⟨l, h, d, rfl, hd, hq⟩
  simp only [w_is_between, fs_is_integer, hd, gIsB, gNotB, D.adr.injEq, Cont.pool.injEq, ixN31, ne_eq, List.map_cons, List.map_nil, wPoolOpen, wPoolClose, wPop0, wPopTo, wListOwn, wRemove, wRaise0, wRaise1, wAugOwn, wEnumL, wTru, wSlA, gCatA, gLtT, gLeT, wFrz, wChain3, wAttr, wMkF, wEnumT, wRevT, wDict0, wDict1, numD3, Nat.reduceAdd, atI0, atI1, atI2, atI3, atI4, ixN51, ixN52, ixN53, List.length_map, wNever, scal, V.int.injEq, V.str.injEq, V.bl.injEq, wSq, wNext, wBreak, wCont, wDrop, wRet, wRetN, wIfS, wAsg, wPar, wLstOwn, wAppend, wSetOwn, wIxOwn, wPeek, wRetOwn, wRetFr, wFor, wB, wNot, wAnd, wOr, wAndV, wOrV, wNotV, wIf, wChain, wNil, wCons, wCB, wTup, wLst, wNoPart, wPart, wSlT, wSlL, wSeq, wRng1, wRng2, wZip, wName, wNilT, wConsT, wTupT, wYes, wNeg, wVar, wC, wOp, wcNil, wcCons, wcOwn, wCall, wCallOwn, slots, cellsOf, OwnArgs, putBack, g2I, g2IC, gLen, gAbs, gGcd, gInt1, gTupleOf, gListOf, gIx, gCatT, gCat, gEq, gNe, gIsN, gNotN, scD, seqD_t, seqD_l, seqD_f, isNonD, List.nodup_cons, List.mem_cons, List.not_mem_nil, or_false, not_false_eq_true, Nat.reduceEqDiff, L3.Keeps, ends, wipeD, List.replicate, List.cons_append, List.nil_append, List.append_nil, List.getElem?_cons_zero, List.getElem?_cons_succ, List.set_cons_zero, List.set_cons_succ, List.getD_cons_zero, List.getD_cons_succ, List.length_cons, List.length_nil, List.nodup_nil, Option.some.injEq, Cell.dat.injEq, Cell.own.injEq, Cont.lst.injEq, D.bl.injEq, D.int.injEq, D.str.injEq, D.tup.injEq, D.lst.injEq, Arg.d.injEq, List.cons.injEq, exists_and_left, exists_and_right, exists_eq_left', exists_eq_left, exists_eq_right, exists_eq_right', exists_eq, exists_eq', and_true, true_and, and_assoc, and_self, exists_const, reduceCtorEq]
  cases d <;> simp_all [isIntD, isBetw]
  rename_i i
  refine ⟨fun h1 => ?_, fun h1 => ?_⟩
  · simpa [h1] using hq
  · have h2 : ¬ l ≤ i := by omega
    simpa [h2] using hq
theorem betw_int {l h : Int} {d : D} (e : isBetw l h d = true) : ∃ i, d = .int i ∧ l ≤ i ∧ i ≤ h := by
  cases d <;> simp [isBetw] at e
  exact ⟨_, rfl, e.1, e.2⟩
theorem ok_is_between (T : Txt K mg) : FnOk P w K mg base (L2.CX P w) 2 T.f_is_between T.fd_is_between ["low", "high", "thing"] (spOf K 3 (fs_is_between K)) := by
  refine def_ok T.F_is_between sc_is_between (wb := w_is_between K) pure_is_between ?_
  intro cdv A outer s H E hr tk
  exact ⟨_, (pss_one (ps_ret (pe_and (pe_callS (ok_is_integer T) (hr.mono (by decide)) rfl T.g_is_integer T.k_is_integer T.b_is_integer (fun σ => passAt tk σ) (pa_cons (pv 2) pa_nil)) (pe_one (pe_chain op_le op_le (pv 0) (pv 2) (pv 1)))))),
    (ds_ret (de_and (de_call (n := 1) (fs := fs_is_integer K) (dac_cons (de_var 2) dac_nil)) (de_chain o_le o_le (de_var 0) (de_var 2) (de_var 1))))⟩
abbrev s_is_tuple_of : Stmt := topS 4
theorem sc_is_tuple_of : FnScope ["low", "high", "thing"] ["low", "high", "thing"] (defScope s_is_tuple_of) := ⟨rfl, rfl, rfl, by decide +kernel, rfl, by decide +kernel, by decide +kernel⟩
def w_is_tuple_of (K : PySem.W.Frag) : SW := (wRet (wAndV (wCB (gIsi K) (wCons (wVar 2) (wCons (wC (.ty "tuple")) wNil))) (wChain gLeI gLeI (wVar 0) (wCB gLen (wCons (wVar 2) wNil)) (wVar 1))))
def isTupOf (l h : Int) : D → Bool | .tup ds => decide (l ≤ ds.length) && decide ((ds.length : Int) ≤ h) | _ => false
def fs_is_tuple_of (K : PySem.W.Frag) : FS := fun cs q _ => ∃ (l h : Int) (d : D), cs = [.dat (.int l), .dat (.int h), .dat d] ∧ OkD K d ∧ q (.bl (isTupOf l h d)) cs
theorem pure_is_tuple_of : PureD 3 0 (fs_is_tuple_of K) (w_is_tuple_of K) := by
  rintro cs q e - ⟨l, h, d, rfl, hd, hq⟩
  simp only [w_is_tuple_of, gIsi_iff hd (show "tuple" ∈ kinds by simp), gIsB, gNotB, D.adr.injEq, Cont.pool.injEq, ixN31, ne_eq, List.map_cons, List.map_nil, wPoolOpen, wPoolClose, wPop0, wPopTo, wListOwn, wRemove, wRaise0, wRaise1, wAugOwn, wEnumL, wTru, wSlA, gCatA, gLtT, gLeT, wFrz, wChain3, wAttr, wMkF, wEnumT, wRevT, wDict0, wDict1, numD3, Nat.reduceAdd, atI0, atI1, atI2, atI3, atI4, ixN51, ixN52, ixN53, List.length_map, wNever, scal, V.int.injEq, V.str.injEq, V.bl.injEq, wSq, wNext, wBreak, wCont, wDrop, wRet, wRetN, wIfS, wAsg, wPar, wLstOwn, wAppend, wSetOwn, wIxOwn, wPeek, wRetOwn, wRetFr, wFor, wB, wNot, wAnd, wOr, wAndV, wOrV, wNotV, wIf, wChain, wNil, wCons, wCB, wTup, wLst, wNoPart, wPart, wSlT, wSlL, wSeq, wRng1, wRng2, wZip, wName, wNilT, wConsT, wTupT, wYes, wNeg, wVar, wC, wOp, wcNil, wcCons, wcOwn, wCall, wCallOwn, slots, cellsOf, OwnArgs, putBack, g2I, g2IC, gLen, gAbs, gGcd, gInt1, gTupleOf, gListOf, gIx, gCatT, gCat, gEq, gNe, gIsN, gNotN, scD, seqD_t, seqD_l, seqD_f, isNonD, List.nodup_cons, List.mem_cons, List.not_mem_nil, or_false, not_false_eq_true, Nat.reduceEqDiff, L3.Keeps, ends, wipeD, List.replicate, List.cons_append, List.nil_append, List.append_nil, List.getElem?_cons_zero, List.getElem?_cons_succ, List.set_cons_zero, List.set_cons_succ, List.getD_cons_zero, List.getD_cons_succ, List.length_cons, List.length_nil, List.nodup_nil, Option.some.injEq, Cell.dat.injEq, Cell.own.injEq, Cont.lst.injEq, D.bl.injEq, D.int.injEq, D.str.injEq, D.tup.injEq, D.lst.injEq, Arg.d.injEq, List.cons.injEq, exists_and_left, exists_and_right, exists_eq_left', exists_eq_left, exists_eq_right, exists_eq_right', exists_eq, exists_eq', and_true, true_and, and_assoc, and_self, exists_const, reduceCtorEq]
  cases d <;> simp_all [isiD, isTupOf, seqD]
  rename_i ds
  refine ⟨fun h1 => ?_, fun h1 => ?_⟩
  · simpa [h1] using hq
  · have h2 : ¬ l ≤ (ds.length : Int) := by omega
    simpa [h2] using hq
theorem ok_is_tuple_of (T : Txt K mg) : FnOk P w K mg base (L2.CX P w) 1 T.f_is_tuple_of T.fd_is_tuple_of ["low", "high", "thing"] (spOf K 3 (fs_is_tuple_of K)) := by
  refine def_ok T.F_is_tuple_of sc_is_tuple_of (wb := w_is_tuple_of K) pure_is_tuple_of ?_
  intro cdv A outer s H E hr tk
  exact ⟨_, (pss_one (ps_ret (pe_and (pe_callB call_isi (by rfl) T.z_isinstance (by decide +kernel) (pa_cons (pv 2) (pa_cons (pe_bltn (v := .ty "tuple") (by rfl) T.z_tuple (by decide +kernel) rfl) pa_nil))) (pe_one (pe_chain op_le op_le (pv 0) (pe_callB call_len_seq (by rfl) T.z_len (by decide +kernel) (pa_cons (pv 2) pa_nil)) (pv 1)))))),
    (ds_ret (de_and (de_cb o_isi (da_cons (de_var 2) (da_cons de_ty da_nil))) (de_chain o_le o_le (de_var 0) (de_cb o_len (da_cons (de_var 2) da_nil)) (de_var 1))))⟩
abbrev s_is_fraction : Stmt := topS 5
theorem sc_is_fraction : FnScope ["thing", "top", "bottom"] ["thing"] (defScope s_is_fraction) := ⟨rfl, rfl, rfl, by decide +kernel, rfl, by decide +kernel, by decide +kernel⟩
def w_is_fraction (K : PySem.W.Frag) : SW := (wSq (wIfS (wNot (wB (wCall 3 (fs_is_tuple_of K) (wcCons (wC (.int 2)) (wcCons (wC (.int 2)) (wcCons (wVar 0) wcNil)))))) (wRet (wC (.bl false))) wNext)
  (wSq (wAsg (wVar 0) (wTupT 2 (wConsT (wName 1) (wConsT (wName 2) wNilT))))
  (wRet (wAndV (wCall 1 (fs_is_integer K) (wcCons (wVar 1) wcNil)) (wAndV (wCall 1 (fs_is_integer K) (wcCons (wVar 2) wcNil)) (wAndV (wOp gGeI (wVar 2) (wC (.int 1))) (wOp gEq (wCB gGcd (wCons (wVar 1) (wCons (wVar 2) wNil))) (wC (.int 1)))))))))
def isFr : D → Bool | .tup [.int t, .int b] => decide (1 ≤ b) && decide (Nat.gcd t.natAbs b.natAbs = 1) | _ => false
def fs_is_fraction (K : PySem.W.Frag) : FS := fun cs q _ => ∃ d, cs = [.dat d] ∧ OkD K d ∧ q (.bl (isFr d)) [.dat d]
theorem tup_two {d : D} (h : isTupOf 2 2 d = true) : ∃ x y, d = .tup [x, y] := by
  cases d <;> simp [isTupOf] at h
  rename_i ds
  match ds, h with
  | [], h => simp at h
  | [x], h => simp at h
  | [x, y], _ => exact ⟨x, y, rfl⟩
  | x :: y :: z :: r, h => simp at h; omega
theorem tup_not_two {d : D} (h : isTupOf 2 2 d = false) : isFr d = false := by
  cases d with
  | tup ds =>
    match ds with
    | [] => rfl
    | [x] => cases x <;> rfl
    | [x, y] => simp [isTupOf] at h
    | x :: y :: z :: r => cases x <;> cases y <;> rfl
  | _ => rfl
theorem int_of {x : D} (h : isIntD x = true) : ∃ i, x = .int i := by
  cases x <;> first | exact ⟨_, rfl⟩ | cases h
theorem fr_l {x y : D} (h : isIntD x = false) : isFr (.tup [x, y]) = false := by
  cases x <;> first | rfl | cases h
theorem fr_r {x y : D} (h : isIntD y = false) : isFr (.tup [x, y]) = false := by
  cases x <;> cases y <;> first | rfl | cases h
theorem pure_is_fraction : PureD 1 2 (fs_is_fraction K) (w_is_fraction K) := by
  rintro cs q e - ⟨d, rfl, hd, hq⟩
  cases h : isTupOf 2 2 d with
  | true =>
    obtain ⟨x, y, rfl⟩ := tup_two h
    have hx := okTup hd (d := x) (by simp)
    have hy := okTup hd (d := y) (by simp)
    simp only [w_is_fraction, fs_is_tuple_of, fs_is_integer, h, hd, hx, hy, gIsB, gNotB, D.adr.injEq, Cont.pool.injEq, ixN31, ne_eq, List.map_cons, List.map_nil, wPoolOpen, wPoolClose, wPop0, wPopTo, wListOwn, wRemove, wRaise0, wRaise1, wAugOwn, wEnumL, wTru, wSlA, gCatA, gLtT, gLeT, wFrz, wChain3, wAttr, wMkF, wEnumT, wRevT, wDict0, wDict1, numD3, Nat.reduceAdd, atI0, atI1, atI2, atI3, atI4, ixN51, ixN52, ixN53, List.length_map, wNever, scal, V.int.injEq, V.str.injEq, V.bl.injEq, wSq, wNext, wBreak, wCont, wDrop, wRet, wRetN, wIfS, wAsg, wPar, wLstOwn, wAppend, wSetOwn, wIxOwn, wPeek, wRetOwn, wRetFr, wFor, wB, wNot, wAnd, wOr, wAndV, wOrV, wNotV, wIf, wChain, wNil, wCons, wCB, wTup, wLst, wNoPart, wPart, wSlT, wSlL, wSeq, wRng1, wRng2, wZip, wName, wNilT, wConsT, wTupT, wYes, wNeg, wVar, wC, wOp, wcNil, wcCons, wcOwn, wCall, wCallOwn, slots, cellsOf, OwnArgs, putBack, g2I, g2IC, gLen, gAbs, gGcd, gInt1, gTupleOf, gListOf, gIx, gCatT, gCat, gEq, gNe, gIsN, gNotN, scD, seqD_t, seqD_l, seqD_f, isNonD, List.nodup_cons, List.mem_cons, List.not_mem_nil, or_false, not_false_eq_true, Nat.reduceEqDiff, L3.Keeps, ends, wipeD, List.replicate, List.cons_append, List.nil_append, List.append_nil, List.getElem?_cons_zero, List.getElem?_cons_succ, List.set_cons_zero, List.set_cons_succ, List.getD_cons_zero, List.getD_cons_succ, List.length_cons, List.length_nil, List.nodup_nil, Option.some.injEq, Cell.dat.injEq, Cell.own.injEq, Cont.lst.injEq, D.bl.injEq, D.int.injEq, D.str.injEq, D.tup.injEq, D.lst.injEq, Arg.d.injEq, List.cons.injEq, exists_and_left, exists_and_right, exists_eq_left', exists_eq_left, exists_eq_right, exists_eq_right', exists_eq, exists_eq', and_true, true_and, and_assoc, and_self, exists_const, reduceCtorEq]
    cases ix : isIntD x with
    | false =>
      rw [fr_l ix] at hq
      simpa using hq
    | true =>
      cases iy : isIntD y with
      | false =>
        rw [fr_r iy] at hq
        simpa using hq
      | true =>
        obtain ⟨t, rfl⟩ := int_of ix
        obtain ⟨b, rfl⟩ := int_of iy
        have e : isFr (.tup [.int t, .int b]) = (decide (1 ≤ b) && decide (((Nat.gcd t.natAbs b.natAbs : Nat) : Int) = 1)) := by
          simp only [isFr]
          congr 1
          exact decide_eq_decide.mpr (by omega)
        rw [e] at hq
        by_cases h1 : 1 ≤ b
        · simp [h1] at hq ⊢
          exact ⟨hq, fun z => absurd z (by omega)⟩
        · simp [h1] at hq ⊢
          exact fun _ => hq
  | false =>
    rw [tup_not_two h] at hq
    simp only [w_is_fraction, fs_is_tuple_of, fs_is_integer, h, hd, gIsB, gNotB, D.adr.injEq, Cont.pool.injEq, ixN31, ne_eq, List.map_cons, List.map_nil, wPoolOpen, wPoolClose, wPop0, wPopTo, wListOwn, wRemove, wRaise0, wRaise1, wAugOwn, wEnumL, wTru, wSlA, gCatA, gLtT, gLeT, wFrz, wChain3, wAttr, wMkF, wEnumT, wRevT, wDict0, wDict1, numD3, Nat.reduceAdd, atI0, atI1, atI2, atI3, atI4, ixN51, ixN52, ixN53, List.length_map, wNever, scal, V.int.injEq, V.str.injEq, V.bl.injEq, wSq, wNext, wBreak, wCont, wDrop, wRet, wRetN, wIfS, wAsg, wPar, wLstOwn, wAppend, wSetOwn, wIxOwn, wPeek, wRetOwn, wRetFr, wFor, wB, wNot, wAnd, wOr, wAndV, wOrV, wNotV, wIf, wChain, wNil, wCons, wCB, wTup, wLst, wNoPart, wPart, wSlT, wSlL, wSeq, wRng1, wRng2, wZip, wName, wNilT, wConsT, wTupT, wYes, wNeg, wVar, wC, wOp, wcNil, wcCons, wcOwn, wCall, wCallOwn, slots, cellsOf, OwnArgs, putBack, g2I, g2IC, gLen, gAbs, gGcd, gInt1, gTupleOf, gListOf, gIx, gCatT, gCat, gEq, gNe, gIsN, gNotN, scD, seqD_t, seqD_l, seqD_f, isNonD, List.nodup_cons, List.mem_cons, List.not_mem_nil, or_false, not_false_eq_true, Nat.reduceEqDiff, L3.Keeps, ends, wipeD, List.replicate, List.cons_append, List.nil_append, List.append_nil, List.getElem?_cons_zero, List.getElem?_cons_succ, List.set_cons_zero, List.set_cons_succ, List.getD_cons_zero, List.getD_cons_succ, List.length_cons, List.length_nil, List.nodup_nil, Option.some.injEq, Cell.dat.injEq, Cell.own.injEq, Cont.lst.injEq, D.bl.injEq, D.int.injEq, D.str.injEq, D.tup.injEq, D.lst.injEq, Arg.d.injEq, List.cons.injEq, exists_and_left, exists_and_right, exists_eq_left', exists_eq_left, exists_eq_right, exists_eq_right', exists_eq, exists_eq', and_true, true_and, and_assoc, and_self, exists_const, reduceCtorEq]
    simpa using hq
theorem ok_is_fraction (T : Txt K mg) : FnOk P w K mg base (L2.CX P w) 2 T.f_is_fraction T.fd_is_fraction ["thing"] (spOf K 1 (fs_is_fraction K)) := by
  refine def_ok T.F_is_fraction sc_is_fraction (wb := w_is_fraction K) pure_is_fraction ?_
  intro cdv A outer s H E hr tk
  exact ⟨_, (pss_cons (ps_if (pt_not (pt_val (pe_callS (ok_is_tuple_of T) (hr.mono (by decide)) rfl T.g_is_tuple_of T.k_is_tuple_of T.b_is_tuple_of (fun σ => passAt tk σ) (pa_cons pe_int (pa_cons pe_int (pa_cons (pv 0) pa_nil))))))
        (pss_one (ps_ret pe_bl))
        pss_nil)
      (pss_cons (ps_asg (pv 0) (pg_tup (by rfl) (pgs_cons (pg_name (i := 1) sc_is_fraction.nd rfl (by first | exact Or.inl rfl | exact Or.inr rfl)) (pgs_cons (pg_name (i := 2) sc_is_fraction.nd rfl (by first | exact Or.inl rfl | exact Or.inr rfl)) pgs_nil))))
      (pss_one (ps_ret (pe_and (pe_callS (ok_is_integer T) (hr.mono (by decide)) rfl T.g_is_integer T.k_is_integer T.b_is_integer (fun σ => passAt tk σ) (pa_cons (pv 1) pa_nil)) (pe_and (pe_callS (ok_is_integer T) (hr.mono (by decide)) rfl T.g_is_integer T.k_is_integer T.b_is_integer (fun σ => passAt tk σ) (pa_cons (pv 2) pa_nil)) (pe_and (pe_cmpR op_ge (pv 2) pe_int (nomark _)) (pe_one (pe_cmpR op_eq (pe_callBfun cr_gcd (by rfl) T.m_gcd (pa_cons (pv 1) (pa_cons (pv 2) pa_nil))) pe_int (nomark _)))))))))),
    (ds_seq (ds_if (dt_not (dt_B (de_call (n := 3) (fs := fs_is_tuple_of K) (dac_cons de_int (dac_cons de_int (dac_cons (de_var 0) dac_nil)))))) (ds_ret de_bl) ds_nil)
      (ds_seq (ds_asg (de_var 0) (dg_tup (n := 2) (dgs_cons (dg_name 1) (dgs_cons (dg_name 2) dgs_nil))))
      (ds_ret (de_and (de_call (n := 1) (fs := fs_is_integer K) (dac_cons (de_var 1) dac_nil)) (de_and (de_call (n := 1) (fs := fs_is_integer K) (dac_cons (de_var 2) dac_nil)) (de_and (de_op o_ge (de_var 2) de_int) (de_op o_eq (de_cb o_gcd (da_cons (de_var 1) (da_cons (de_var 2) da_nil))) de_int)))))))⟩
abbrev s_at_most : Stmt := topS 11
theorem sc_at_most : FnScope ["one", "other"] ["one", "other"] (defScope s_at_most) := ⟨rfl, rfl, rfl, by decide +kernel, rfl, by decide +kernel, by decide +kernel⟩
def w_at_most (K : PySem.W.Frag) : SW := (wRet (wOp gLeI (wOp gMulA (wOp gIx (wVar 0) (wC (.int 0))) (wOp gIx (wVar 1) (wC (.int 1)))) (wOp gMulA (wOp gIx (wVar 1) (wC (.int 0))) (wOp gIx (wVar 0) (wC (.int 1))))))
def fs_at_most (K : PySem.W.Frag) : FS := fun cs q _ => ∃ a b c d : Int, cs = [.dat (.tup [.int a, .int b]), .dat (.tup [.int c, .int d])] ∧ CMulA a d ∧ CMulA c b ∧ q (.bl (decide (a * d ≤ c * b))) cs
theorem pure_at_most : PureD 2 0 (fs_at_most K) (w_at_most K) := by
  rintro cs q e - ⟨a, b, c, d, rfl, h1, h2, hq⟩
  simp only [w_at_most, atI0, atI1, gIsB, gNotB, D.adr.injEq, Cont.pool.injEq, ixN31, ne_eq, List.map_cons, List.map_nil, wPoolOpen, wPoolClose, wPop0, wPopTo, wListOwn, wRemove, wRaise0, wRaise1, wAugOwn, wEnumL, wTru, wSlA, gCatA, gLtT, gLeT, wFrz, wChain3, wAttr, wMkF, wEnumT, wRevT, wDict0, wDict1, numD3, Nat.reduceAdd, atI0, atI1, atI2, atI3, atI4, ixN51, ixN52, ixN53, List.length_map, wNever, scal, V.int.injEq, V.str.injEq, V.bl.injEq, wSq, wNext, wBreak, wCont, wDrop, wRet, wRetN, wIfS, wAsg, wPar, wLstOwn, wAppend, wSetOwn, wIxOwn, wPeek, wRetOwn, wRetFr, wFor, wB, wNot, wAnd, wOr, wAndV, wOrV, wNotV, wIf, wChain, wNil, wCons, wCB, wTup, wLst, wNoPart, wPart, wSlT, wSlL, wSeq, wRng1, wRng2, wZip, wName, wNilT, wConsT, wTupT, wYes, wNeg, wVar, wC, wOp, wcNil, wcCons, wcOwn, wCall, wCallOwn, slots, cellsOf, OwnArgs, putBack, g2I, g2IC, gLen, gAbs, gGcd, gInt1, gTupleOf, gListOf, gIx, gCatT, gCat, gEq, gNe, gIsN, gNotN, scD, seqD_t, seqD_l, seqD_f, isNonD, List.nodup_cons, List.mem_cons, List.not_mem_nil, or_false, not_false_eq_true, Nat.reduceEqDiff, L3.Keeps, ends, wipeD, List.replicate, List.cons_append, List.nil_append, List.append_nil, List.getElem?_cons_zero, List.getElem?_cons_succ, List.set_cons_zero, List.set_cons_succ, List.getD_cons_zero, List.getD_cons_succ, List.length_cons, List.length_nil, List.nodup_nil, Option.some.injEq, Cell.dat.injEq, Cell.own.injEq, Cont.lst.injEq, D.bl.injEq, D.int.injEq, D.str.injEq, D.tup.injEq, D.lst.injEq, Arg.d.injEq, List.cons.injEq, exists_and_left, exists_and_right, exists_eq_left', exists_eq_left, exists_eq_right, exists_eq_right', exists_eq, exists_eq', and_true, true_and, and_assoc, and_self, exists_const, reduceCtorEq]
  exact ⟨h1, h2, hq⟩
theorem ok_at_most (T : Txt K mg) : FnOk P w K mg base (L2.CX P w) 1 T.f_at_most T.fd_at_most ["one", "other"] (spOf K 2 (fs_at_most K)) := by
  refine def_ok T.F_at_most sc_at_most (wb := w_at_most K) pure_at_most ?_
  intro cdv A outer s H E hr tk
  exact ⟨_, (pss_one (ps_ret (pe_cmpR op_le (pe_op op_mulA (pe_ix ix_seq (pv 0) pe_int (fun _ _ => rfl)) (pe_ix ix_seq (pv 1) pe_int (fun _ _ => rfl))) (pe_op op_mulA (pe_ix ix_seq (pv 1) pe_int (fun _ _ => rfl)) (pe_ix ix_seq (pv 0) pe_int (fun _ _ => rfl))) (nomark _)))),
    (ds_ret (de_op o_le (de_op o_mulA (de_op o_ix (de_var 0) de_int) (de_op o_ix (de_var 1) de_int)) (de_op o_mulA (de_op o_ix (de_var 1) de_int) (de_op o_ix (de_var 0) de_int))))⟩
abbrev s_is_threshold : Stmt := topS 22
theorem sc_is_threshold : FnScope ["thing"] ["thing"] (defScope s_is_threshold) := ⟨rfl, rfl, rfl, by decide +kernel, rfl, by decide +kernel, by decide +kernel⟩
def w_is_threshold (K : PySem.W.Frag) : SW := (wRet (wAndV (wCall 1 (fs_is_fraction K) (wcCons (wVar 0) wcNil)) (wAndV (wChain gLeI gLeI (wC (.int 1)) (wOp gIx (wVar 0) (wC (.int 0))) (wC (.int 1000000))) (wOp gLeI (wOp gIx (wVar 0) (wC (.int 1))) (wC (.int 144))))))
def isTh : D → Bool | .tup [.int t, .int b] => isFr (.tup [.int t, .int b]) && decide (1 ≤ t) && decide (t ≤ 1000000) && decide (b ≤ 144) | _ => false
def fs_is_threshold (K : PySem.W.Frag) : FS := fun cs q _ => ∃ d, cs = [.dat d] ∧ OkD K d ∧ q (.bl (isTh d)) [.dat d]
theorem fr_shape {d : D} (h : isFr d = true) : ∃ t b, d = .tup [.int t, .int b] := by
  cases d with
  | tup ds =>
    match ds with
    | [] => simp [isFr] at h
    | [x] => cases x <;> simp [isFr] at h
    | [x, y] => cases x <;> cases y <;> simp [isFr] at h; exact ⟨_, _, rfl⟩
    | x :: y :: z :: r => cases x <;> cases y <;> simp [isFr] at h
  | _ => simp [isFr] at h
theorem th_fr {d : D} (h : isFr d = false) : isTh d = false := by
  cases d with
  | tup ds =>
    match ds with
    | [] => rfl
    | [x] => cases x <;> rfl
    | [x, y] => cases x <;> cases y <;> simp_all [isTh]
    | x :: y :: z :: r => cases x <;> cases y <;> rfl
  | _ => rfl
theorem pure_is_threshold : PureD 1 0 (fs_is_threshold K) (w_is_threshold K) := by
  rintro cs q e - ⟨d, rfl, hd, hq⟩
  by_cases h : isFr d = true
  · obtain ⟨t, b, rfl⟩ := fr_shape h
    have e1 : isTh (.tup [.int t, .int b]) = (decide (1 ≤ t) && decide (t ≤ 1000000) && decide (b ≤ 144)) := by simp only [isTh, h, Bool.true_and]
    rw [e1] at hq
    simp only [w_is_threshold, fs_is_fraction, h, hd, atI0, atI1, gIsB, gNotB, D.adr.injEq, Cont.pool.injEq, ixN31, ne_eq, List.map_cons, List.map_nil, wPoolOpen, wPoolClose, wPop0, wPopTo, wListOwn, wRemove, wRaise0, wRaise1, wAugOwn, wEnumL, wTru, wSlA, gCatA, gLtT, gLeT, wFrz, wChain3, wAttr, wMkF, wEnumT, wRevT, wDict0, wDict1, numD3, Nat.reduceAdd, atI0, atI1, atI2, atI3, atI4, ixN51, ixN52, ixN53, List.length_map, wNever, scal, V.int.injEq, V.str.injEq, V.bl.injEq, wSq, wNext, wBreak, wCont, wDrop, wRet, wRetN, wIfS, wAsg, wPar, wLstOwn, wAppend, wSetOwn, wIxOwn, wPeek, wRetOwn, wRetFr, wFor, wB, wNot, wAnd, wOr, wAndV, wOrV, wNotV, wIf, wChain, wNil, wCons, wCB, wTup, wLst, wNoPart, wPart, wSlT, wSlL, wSeq, wRng1, wRng2, wZip, wName, wNilT, wConsT, wTupT, wYes, wNeg, wVar, wC, wOp, wcNil, wcCons, wcOwn, wCall, wCallOwn, slots, cellsOf, OwnArgs, putBack, g2I, g2IC, gLen, gAbs, gGcd, gInt1, gTupleOf, gListOf, gIx, gCatT, gCat, gEq, gNe, gIsN, gNotN, scD, seqD_t, seqD_l, seqD_f, isNonD, List.nodup_cons, List.mem_cons, List.not_mem_nil, or_false, not_false_eq_true, Nat.reduceEqDiff, L3.Keeps, ends, wipeD, List.replicate, List.cons_append, List.nil_append, List.append_nil, List.getElem?_cons_zero, List.getElem?_cons_succ, List.set_cons_zero, List.set_cons_succ, List.getD_cons_zero, List.getD_cons_succ, List.length_cons, List.length_nil, List.nodup_nil, Option.some.injEq, Cell.dat.injEq, Cell.own.injEq, Cont.lst.injEq, D.bl.injEq, D.int.injEq, D.str.injEq, D.tup.injEq, D.lst.injEq, Arg.d.injEq, List.cons.injEq, exists_and_left, exists_and_right, exists_eq_left', exists_eq_left, exists_eq_right, exists_eq_right', exists_eq, exists_eq', and_true, true_and, and_assoc, and_self, exists_const, reduceCtorEq]
    by_cases h1 : 1 ≤ t <;> by_cases h2 : t ≤ 1000000 <;> by_cases h3 : b ≤ 144 <;> simp [h1, h2, h3] at hq ⊢ <;> exact hq
  · have h : isFr d = false := by simpa using h
    rw [th_fr h] at hq
    simp only [w_is_threshold, fs_is_fraction, h, hd, gIsB, gNotB, D.adr.injEq, Cont.pool.injEq, ixN31, ne_eq, List.map_cons, List.map_nil, wPoolOpen, wPoolClose, wPop0, wPopTo, wListOwn, wRemove, wRaise0, wRaise1, wAugOwn, wEnumL, wTru, wSlA, gCatA, gLtT, gLeT, wFrz, wChain3, wAttr, wMkF, wEnumT, wRevT, wDict0, wDict1, numD3, Nat.reduceAdd, atI0, atI1, atI2, atI3, atI4, ixN51, ixN52, ixN53, List.length_map, wNever, scal, V.int.injEq, V.str.injEq, V.bl.injEq, wSq, wNext, wBreak, wCont, wDrop, wRet, wRetN, wIfS, wAsg, wPar, wLstOwn, wAppend, wSetOwn, wIxOwn, wPeek, wRetOwn, wRetFr, wFor, wB, wNot, wAnd, wOr, wAndV, wOrV, wNotV, wIf, wChain, wNil, wCons, wCB, wTup, wLst, wNoPart, wPart, wSlT, wSlL, wSeq, wRng1, wRng2, wZip, wName, wNilT, wConsT, wTupT, wYes, wNeg, wVar, wC, wOp, wcNil, wcCons, wcOwn, wCall, wCallOwn, slots, cellsOf, OwnArgs, putBack, g2I, g2IC, gLen, gAbs, gGcd, gInt1, gTupleOf, gListOf, gIx, gCatT, gCat, gEq, gNe, gIsN, gNotN, scD, seqD_t, seqD_l, seqD_f, isNonD, List.nodup_cons, List.mem_cons, List.not_mem_nil, or_false, not_false_eq_true, Nat.reduceEqDiff, L3.Keeps, ends, wipeD, List.replicate, List.cons_append, List.nil_append, List.append_nil, List.getElem?_cons_zero, List.getElem?_cons_succ, List.set_cons_zero, List.set_cons_succ, List.getD_cons_zero, List.getD_cons_succ, List.length_cons, List.length_nil, List.nodup_nil, Option.some.injEq, Cell.dat.injEq, Cell.own.injEq, Cont.lst.injEq, D.bl.injEq, D.int.injEq, D.str.injEq, D.tup.injEq, D.lst.injEq, Arg.d.injEq, List.cons.injEq, exists_and_left, exists_and_right, exists_eq_left', exists_eq_left, exists_eq_right, exists_eq_right', exists_eq, exists_eq', and_true, true_and, and_assoc, and_self, exists_const, reduceCtorEq]
    simp_all
theorem ok_is_threshold (T : Txt K mg) : FnOk P w K mg base (L2.CX P w) 3 T.f_is_threshold T.fd_is_threshold ["thing"] (spOf K 1 (fs_is_threshold K)) := by
  refine def_ok T.F_is_threshold sc_is_threshold (wb := w_is_threshold K) pure_is_threshold ?_
  intro cdv A outer s H E hr tk
  exact ⟨_, (pss_one (ps_ret (pe_and (pe_callS (ok_is_fraction T) (hr.mono (by decide)) rfl T.g_is_fraction T.k_is_fraction T.b_is_fraction (fun σ => passAt tk σ) (pa_cons (pv 0) pa_nil)) (pe_and (pe_chain op_le op_le pe_int (pe_ix ix_seq (pv 0) pe_int (fun _ _ => rfl)) (pe_glob (v := .int 1000000) rfl T.c_MOST_TOP ⟨_, rfl⟩)) (pe_one (pe_cmpR op_le (pe_ix ix_seq (pv 0) pe_int (fun _ _ => rfl)) (pe_glob (v := .int 144) rfl T.c_MOST_BOTTOM ⟨_, rfl⟩) (nomark _))))))),
    (ds_ret (de_and (de_call (n := 1) (fs := fs_is_fraction K) (dac_cons (de_var 0) dac_nil)) (de_and (de_chain o_le o_le de_int (de_op o_ix (de_var 0) de_int) de_int) (de_op o_le (de_op o_ix (de_var 0) de_int) de_int))))⟩
abbrev s_is_list : Stmt := topS 23
theorem sc_is_list : FnScope ["thing", "threshold", "low", "high"] ["thing"] (defScope s_is_list) := ⟨rfl, rfl, rfl, by decide +kernel, rfl, by decide +kernel, by decide +kernel⟩
def c1_is_list (K : PySem.W.Frag) : EW := wLc (wSeq (wVar 0)) (wName 1) wYes (wCall 1 (fs_is_threshold K) (wcCons (wVar 1) wcNil)) [1]
def c2_is_list (K : PySem.W.Frag) : EW := wLc (wZip (wCons (wVar 0) (wCons (wSlA (wVar 0) (wPart (wC (.int 1))) wNoPart) wNil))) (wTupT 2 (wConsT (wName 2) (wConsT (wName 3) wNilT))) wYes (wCall 2 (fs_at_most K) (wcCons (wVar 2) (wcCons (wVar 3) wcNil))) [2, 3]
def w_is_list (K : PySem.W.Frag) : SW := (wSq (wIfS (wNot (wB (wCall 3 (fs_is_tuple_of K) (wcCons (wC (.int 1)) (wcCons (wC (.int 6)) (wcCons (wVar 0) wcNil)))))) (wRet (wC (.bl false))) wNext)
  (wSq (wIfS (wNot (wB (wCB gAll (wCons (c1_is_list K) wNil)))) (wRet (wC (.bl false))) wNext)
  (wRet (wCB gAll (wCons (c2_is_list K) wNil)))))
def leP : D → Bool | .tup [.tup [.int a, .int b], .tup [.int c, .int d]] => decide (a * d ≤ c * b) | _ => false
def ascP (ds : List D) : Bool := (zipD ds (ds.drop 1)).all leP
def isLi : D → Bool | .tup ds => isTupOf 1 6 (.tup ds) && ds.all isTh && ascP ds | _ => false
def fs_is_list (K : PySem.W.Frag) : FS := fun cs q _ => ∃ d, cs = [.dat d] ∧ OkD K d ∧ q (.bl (isLi d)) [.dat d]
theorem filter_true {α : Type} {l : List α} : l.filter (fun _ => true) = l := by simp
theorem th_shape {d : D} (h : isTh d = true) : ∃ t b, d = .tup [.int t, .int b] ∧ 1 ≤ b ∧ b ≤ 144 ∧ 1 ≤ t ∧ t ≤ 1000000 := by
  cases h2 : isFr d with
  | false => rw [th_fr h2] at h; cases h
  | true =>
    obtain ⟨t, b, rfl⟩ := fr_shape h2
    simp [isTh, isFr] at h
    exact ⟨t, b, rfl, by omega, by omega, by omega, by omega⟩
theorem c1_is_list_ok {ds : List D} {c2 c3 c4 : Cell} {q : D → List Cell → Prop} {e : Xn → List Cell → Prop} (hd : OkD K (.tup ds)) (hn : ds.length ≤ 1000)
    (hq : q (.lst (ds.map fun d => .bl (isTh d))) [.dat (.tup ds), .any, c3, c4]) : c1_is_list K [.dat (.tup ds), c2, c3, c4] q e := by
  unfold c1_is_list wLc
  refine ⟨_, rfl, ds, rfl, lc_fm (fun d => .bl (isTh d)) (fun _ => true) hn (fun d hm k1 k2 h1 _ => ?_) (by rw [filter_true]; exact hq)⟩
  simp only [fs_is_threshold, okTup hd hm, gIsB, gNotB, D.adr.injEq, Cont.pool.injEq, ixN31, ne_eq, List.map_cons, List.map_nil, wPoolOpen, wPoolClose, wPop0, wPopTo, wListOwn, wRemove, wRaise0, wRaise1, wAugOwn, wEnumL, wTru, wSlA, gCatA, gLtT, gLeT, wFrz, wChain3, wAttr, wMkF, wEnumT, wRevT, wDict0, wDict1, numD3, Nat.reduceAdd, atI0, atI1, atI2, atI3, atI4, ixN51, ixN52, ixN53, List.length_map, wNever, scal, V.int.injEq, V.str.injEq, V.bl.injEq, wSq, wNext, wBreak, wCont, wDrop, wRet, wRetN, wIfS, wAsg, wPar, wLstOwn, wAppend, wSetOwn, wIxOwn, wPeek, wRetOwn, wRetFr, wFor, wB, wNot, wAnd, wOr, wAndV, wOrV, wNotV, wIf, wChain, wNil, wCons, wCB, wTup, wLst, wNoPart, wPart, wSlT, wSlL, wSeq, wRng1, wRng2, wZip, wName, wNilT, wConsT, wTupT, wYes, wNeg, wVar, wC, wOp, wcNil, wcCons, wcOwn, wCall, wCallOwn, slots, cellsOf, OwnArgs, putBack, g2I, g2IC, gLen, gAbs, gGcd, gInt1, gTupleOf, gListOf, gIx, gCatT, gCat, gEq, gNe, gIsN, gNotN, scD, seqD_t, seqD_l, seqD_f, isNonD, List.nodup_cons, List.mem_cons, List.not_mem_nil, or_false, not_false_eq_true, Nat.reduceEqDiff, L3.Keeps, ends, wipeD, List.replicate, List.cons_append, List.nil_append, List.append_nil, List.getElem?_cons_zero, List.getElem?_cons_succ, List.set_cons_zero, List.set_cons_succ, List.getD_cons_zero, List.getD_cons_succ, List.length_cons, List.length_nil, List.nodup_nil, Option.some.injEq, Cell.dat.injEq, Cell.own.injEq, Cont.lst.injEq, D.bl.injEq, D.int.injEq, D.str.injEq, D.tup.injEq, D.lst.injEq, Arg.d.injEq, List.cons.injEq, exists_and_left, exists_and_right, exists_eq_left', exists_eq_left, exists_eq_right, exists_eq_right', exists_eq, exists_eq', and_true, true_and, and_assoc, and_self, exists_const, reduceCtorEq]
  simp only [true_implies]
  refine ⟨h1 rfl _ rfl, fun z => nomatch z⟩
theorem sIx1 (n : Nat) : HT.sIx n 0 (some 1) = min 1 n := HT.sIx_nat n 0 1
theorem cutD1 {ds : List D} : cutDs ds (some 1) none = ds.drop 1 := by
  unfold cutDs
  rw [sIx1, HT.sIx_none]
  cases ds with
  | nil => rfl
  | cons x r =>
    have : min 1 (x :: r).length = 1 := by simp only [List.length_cons]; omega
    rw [this]
    exact List.take_of_length_le (by simp)
theorem cut_some {ds : List D} (h : 1 ≤ ds.length) : ¬ (HT.sIx ds.length 0 (some 1) = 0 ∧ HT.sIx ds.length ds.length none = ds.length) := fun ⟨z, _⟩ => by
  rw [sIx1] at z
  omega
theorem zip_mem {xs ys : List D} {d : D} (h : d ∈ zipD xs ys) : ∃ x y, x ∈ xs ∧ y ∈ ys ∧ d = .tup [x, y] := by
  unfold zipD at h
  obtain ⟨i, hi, e⟩ := List.getElem_of_mem h
  rw [List.getElem_zipWith] at e
  exact ⟨_, _, List.getElem_mem _, List.getElem_mem _, e.symm⟩
theorem c2_is_list_ok {ds : List D} {c2 c3 c4 : Cell} {q : D → List Cell → Prop} {e : Xn → List Cell → Prop} (h1 : 1 ≤ ds.length) (hn : ds.length ≤ 1000) (ht : ∀ d ∈ ds, isTh d = true)
    (hq : q (.lst ((zipD ds (ds.drop 1)).map fun d => .bl (leP d))) [.dat (.tup ds), c2, .any, .any]) : c2_is_list K [.dat (.tup ds), c2, c3, c4] q e := by
  unfold c2_is_list wLc
  refine ⟨_, rfl, _, rfl, 1, rfl, ds, rfl, ds, ds.drop 1, .inl (by rw [cutD1]), lc_fm (fun d => .bl (leP d)) (fun _ => true) ?_ (fun d hm k1 k2 h1 _ => ?_) (by rw [filter_true]; exact hq)⟩
  · unfold zipD
    rw [List.length_zipWith]
    omega
  · obtain ⟨x, y, hx, hy, rfl⟩ := zip_mem hm
    obtain ⟨a, b, rfl, b1, b2, b3, b4⟩ := th_shape (ht x hx)
    obtain ⟨c, d, rfl, d1, d2, d3, d4⟩ := th_shape (ht y (List.mem_of_mem_drop hy))
    simp only [fs_at_most, gIsB, gNotB, D.adr.injEq, Cont.pool.injEq, ixN31, ne_eq, List.map_cons, List.map_nil, wPoolOpen, wPoolClose, wPop0, wPopTo, wListOwn, wRemove, wRaise0, wRaise1, wAugOwn, wEnumL, wTru, wSlA, gCatA, gLtT, gLeT, wFrz, wChain3, wAttr, wMkF, wEnumT, wRevT, wDict0, wDict1, numD3, Nat.reduceAdd, atI0, atI1, atI2, atI3, atI4, ixN51, ixN52, ixN53, List.length_map, wNever, scal, V.int.injEq, V.str.injEq, V.bl.injEq, wSq, wNext, wBreak, wCont, wDrop, wRet, wRetN, wIfS, wAsg, wPar, wLstOwn, wAppend, wSetOwn, wIxOwn, wPeek, wRetOwn, wRetFr, wFor, wB, wNot, wAnd, wOr, wAndV, wOrV, wNotV, wIf, wChain, wNil, wCons, wCB, wTup, wLst, wNoPart, wPart, wSlT, wSlL, wSeq, wRng1, wRng2, wZip, wName, wNilT, wConsT, wTupT, wYes, wNeg, wVar, wC, wOp, wcNil, wcCons, wcOwn, wCall, wCallOwn, slots, cellsOf, OwnArgs, putBack, g2I, g2IC, gLen, gAbs, gGcd, gInt1, gTupleOf, gListOf, gIx, gCatT, gCat, gEq, gNe, gIsN, gNotN, scD, seqD_t, seqD_l, seqD_f, isNonD, List.nodup_cons, List.mem_cons, List.not_mem_nil, or_false, not_false_eq_true, Nat.reduceEqDiff, L3.Keeps, ends, wipeD, List.replicate, List.cons_append, List.nil_append, List.append_nil, List.getElem?_cons_zero, List.getElem?_cons_succ, List.set_cons_zero, List.set_cons_succ, List.getD_cons_zero, List.getD_cons_succ, List.length_cons, List.length_nil, List.nodup_nil, Option.some.injEq, Cell.dat.injEq, Cell.own.injEq, Cont.lst.injEq, D.bl.injEq, D.int.injEq, D.str.injEq, D.tup.injEq, D.lst.injEq, Arg.d.injEq, List.cons.injEq, exists_and_left, exists_and_right, exists_eq_left', exists_eq_left, exists_eq_right, exists_eq_right', exists_eq, exists_eq', and_true, true_and, and_assoc, and_self, exists_const, reduceCtorEq]
    simp only [true_implies]
    exact ⟨⟨cmul_r (by omega) (by omega), cmul_r (by omega) (by omega), h1 rfl _ rfl⟩, fun z => z.elim⟩
theorem all_map {α : Type} {l : List α} {f : α → Bool} : (l.map f).all id = l.all f := by simp
theorem gAll_map {α : Type} {l : List α} {f : α → Bool} {q : D → Prop} (h : q (.bl (l.all f))) : gAll [.lst (l.map fun d => .bl (f d))] q :=
  ⟨_, l.map f, .inl rfl, by simp, by rw [all_map]; exact h⟩
theorem pure_is_list : PureD 1 3 (fs_is_list K) (w_is_list K) := by
  rintro cs q e - ⟨d, rfl, hd, hq⟩
  cases h : isTupOf 1 6 d with
  | false =>
    have e1 : isLi d = false := by cases d <;> simp_all [isLi]
    rw [e1] at hq
    simp only [w_is_list, fs_is_tuple_of, h, hd, gIsB, gNotB, D.adr.injEq, Cont.pool.injEq, ixN31, ne_eq, List.map_cons, List.map_nil, wPoolOpen, wPoolClose, wPop0, wPopTo, wListOwn, wRemove, wRaise0, wRaise1, wAugOwn, wEnumL, wTru, wSlA, gCatA, gLtT, gLeT, wFrz, wChain3, wAttr, wMkF, wEnumT, wRevT, wDict0, wDict1, numD3, Nat.reduceAdd, atI0, atI1, atI2, atI3, atI4, ixN51, ixN52, ixN53, List.length_map, wNever, scal, V.int.injEq, V.str.injEq, V.bl.injEq, wSq, wNext, wBreak, wCont, wDrop, wRet, wRetN, wIfS, wAsg, wPar, wLstOwn, wAppend, wSetOwn, wIxOwn, wPeek, wRetOwn, wRetFr, wFor, wB, wNot, wAnd, wOr, wAndV, wOrV, wNotV, wIf, wChain, wNil, wCons, wCB, wTup, wLst, wNoPart, wPart, wSlT, wSlL, wSeq, wRng1, wRng2, wZip, wName, wNilT, wConsT, wTupT, wYes, wNeg, wVar, wC, wOp, wcNil, wcCons, wcOwn, wCall, wCallOwn, slots, cellsOf, OwnArgs, putBack, g2I, g2IC, gLen, gAbs, gGcd, gInt1, gTupleOf, gListOf, gIx, gCatT, gCat, gEq, gNe, gIsN, gNotN, scD, seqD_t, seqD_l, seqD_f, isNonD, List.nodup_cons, List.mem_cons, List.not_mem_nil, or_false, not_false_eq_true, Nat.reduceEqDiff, L3.Keeps, ends, wipeD, List.replicate, List.cons_append, List.nil_append, List.append_nil, List.getElem?_cons_zero, List.getElem?_cons_succ, List.set_cons_zero, List.set_cons_succ, List.getD_cons_zero, List.getD_cons_succ, List.length_cons, List.length_nil, List.nodup_nil, Option.some.injEq, Cell.dat.injEq, Cell.own.injEq, Cont.lst.injEq, D.bl.injEq, D.int.injEq, D.str.injEq, D.tup.injEq, D.lst.injEq, Arg.d.injEq, List.cons.injEq, exists_and_left, exists_and_right, exists_eq_left', exists_eq_left, exists_eq_right, exists_eq_right', exists_eq, exists_eq', and_true, true_and, and_assoc, and_self, exists_const, reduceCtorEq]
    simp_all
  | true =>
    cases d <;> simp [isTupOf] at h
    rename_i ds
    have h' : isTupOf 1 6 (.tup ds) = true := by simp [isTupOf]; omega
    simp only [w_is_list, fs_is_tuple_of, h', hd, gIsB, gNotB, D.adr.injEq, Cont.pool.injEq, ixN31, ne_eq, List.map_cons, List.map_nil, wPoolOpen, wPoolClose, wPop0, wPopTo, wListOwn, wRemove, wRaise0, wRaise1, wAugOwn, wEnumL, wTru, wSlA, gCatA, gLtT, gLeT, wFrz, wChain3, wAttr, wMkF, wEnumT, wRevT, wDict0, wDict1, numD3, Nat.reduceAdd, atI0, atI1, atI2, atI3, atI4, ixN51, ixN52, ixN53, List.length_map, wNever, scal, V.int.injEq, V.str.injEq, V.bl.injEq, wSq, wNext, wBreak, wCont, wDrop, wRet, wRetN, wIfS, wAsg, wPar, wLstOwn, wAppend, wSetOwn, wIxOwn, wPeek, wRetOwn, wRetFr, wFor, wB, wNot, wAnd, wOr, wAndV, wOrV, wNotV, wIf, wChain, wNil, wCons, wCB, wTup, wLst, wNoPart, wPart, wSlT, wSlL, wSeq, wRng1, wRng2, wZip, wName, wNilT, wConsT, wTupT, wYes, wNeg, wVar, wC, wOp, wcNil, wcCons, wcOwn, wCall, wCallOwn, slots, cellsOf, OwnArgs, putBack, g2I, g2IC, gLen, gAbs, gGcd, gInt1, gTupleOf, gListOf, gIx, gCatT, gCat, gEq, gNe, gIsN, gNotN, scD, seqD_t, seqD_l, seqD_f, isNonD, List.nodup_cons, List.mem_cons, List.not_mem_nil, or_false, not_false_eq_true, Nat.reduceEqDiff, L3.Keeps, ends, wipeD, List.replicate, List.cons_append, List.nil_append, List.append_nil, List.getElem?_cons_zero, List.getElem?_cons_succ, List.set_cons_zero, List.set_cons_succ, List.getD_cons_zero, List.getD_cons_succ, List.length_cons, List.length_nil, List.nodup_nil, Option.some.injEq, Cell.dat.injEq, Cell.own.injEq, Cont.lst.injEq, D.bl.injEq, D.int.injEq, D.str.injEq, D.tup.injEq, D.lst.injEq, Arg.d.injEq, List.cons.injEq, exists_and_left, exists_and_right, exists_eq_left', exists_eq_left, exists_eq_right, exists_eq_right', exists_eq, exists_eq', and_true, true_and, and_assoc, and_self, exists_const, reduceCtorEq]
    simp only [Bool.not_true, Bool.false_eq_true, false_implies, true_implies, true_and]
    refine c1_is_list_ok hd (by omega) (gAll_map ?_)
    cases ht : ds.all isTh with
    | false =>
      have e1 : isLi (.tup ds) = false := by simp only [isLi, h', ht]; rfl
      rw [e1] at hq
      simp only [gIsB, gNotB, D.adr.injEq, Cont.pool.injEq, ixN31, ne_eq, List.map_cons, List.map_nil, wPoolOpen, wPoolClose, wPop0, wPopTo, wListOwn, wRemove, wRaise0, wRaise1, wAugOwn, wEnumL, wTru, wSlA, gCatA, gLtT, gLeT, wFrz, wChain3, wAttr, wMkF, wEnumT, wRevT, wDict0, wDict1, numD3, Nat.reduceAdd, atI0, atI1, atI2, atI3, atI4, ixN51, ixN52, ixN53, List.length_map, wNever, scal, V.int.injEq, V.str.injEq, V.bl.injEq, wSq, wNext, wBreak, wCont, wDrop, wRet, wRetN, wIfS, wAsg, wPar, wLstOwn, wAppend, wSetOwn, wIxOwn, wPeek, wRetOwn, wRetFr, wFor, wB, wNot, wAnd, wOr, wAndV, wOrV, wNotV, wIf, wChain, wNil, wCons, wCB, wTup, wLst, wNoPart, wPart, wSlT, wSlL, wSeq, wRng1, wRng2, wZip, wName, wNilT, wConsT, wTupT, wYes, wNeg, wVar, wC, wOp, wcNil, wcCons, wcOwn, wCall, wCallOwn, slots, cellsOf, OwnArgs, putBack, g2I, g2IC, gLen, gAbs, gGcd, gInt1, gTupleOf, gListOf, gIx, gCatT, gCat, gEq, gNe, gIsN, gNotN, scD, seqD_t, seqD_l, seqD_f, isNonD, List.nodup_cons, List.mem_cons, List.not_mem_nil, or_false, not_false_eq_true, Nat.reduceEqDiff, L3.Keeps, ends, wipeD, List.replicate, List.cons_append, List.nil_append, List.append_nil, List.getElem?_cons_zero, List.getElem?_cons_succ, List.set_cons_zero, List.set_cons_succ, List.getD_cons_zero, List.getD_cons_succ, List.length_cons, List.length_nil, List.nodup_nil, Option.some.injEq, Cell.dat.injEq, Cell.own.injEq, Cont.lst.injEq, D.bl.injEq, D.int.injEq, D.str.injEq, D.tup.injEq, D.lst.injEq, Arg.d.injEq, List.cons.injEq, exists_and_left, exists_and_right, exists_eq_left', exists_eq_left, exists_eq_right, exists_eq_right', exists_eq, exists_eq', and_true, true_and, and_assoc, and_self, exists_const, reduceCtorEq]
      simp_all
    | true =>
      have e1 : isLi (.tup ds) = ascP ds := by simp only [isLi, h', ht]; rfl
      rw [e1] at hq
      simp only [gIsB, gNotB, D.adr.injEq, Cont.pool.injEq, ixN31, ne_eq, List.map_cons, List.map_nil, wPoolOpen, wPoolClose, wPop0, wPopTo, wListOwn, wRemove, wRaise0, wRaise1, wAugOwn, wEnumL, wTru, wSlA, gCatA, gLtT, gLeT, wFrz, wChain3, wAttr, wMkF, wEnumT, wRevT, wDict0, wDict1, numD3, Nat.reduceAdd, atI0, atI1, atI2, atI3, atI4, ixN51, ixN52, ixN53, List.length_map, wNever, scal, V.int.injEq, V.str.injEq, V.bl.injEq, wSq, wNext, wBreak, wCont, wDrop, wRet, wRetN, wIfS, wAsg, wPar, wLstOwn, wAppend, wSetOwn, wIxOwn, wPeek, wRetOwn, wRetFr, wFor, wB, wNot, wAnd, wOr, wAndV, wOrV, wNotV, wIf, wChain, wNil, wCons, wCB, wTup, wLst, wNoPart, wPart, wSlT, wSlL, wSeq, wRng1, wRng2, wZip, wName, wNilT, wConsT, wTupT, wYes, wNeg, wVar, wC, wOp, wcNil, wcCons, wcOwn, wCall, wCallOwn, slots, cellsOf, OwnArgs, putBack, g2I, g2IC, gLen, gAbs, gGcd, gInt1, gTupleOf, gListOf, gIx, gCatT, gCat, gEq, gNe, gIsN, gNotN, scD, seqD_t, seqD_l, seqD_f, isNonD, List.nodup_cons, List.mem_cons, List.not_mem_nil, or_false, not_false_eq_true, Nat.reduceEqDiff, L3.Keeps, ends, wipeD, List.replicate, List.cons_append, List.nil_append, List.append_nil, List.getElem?_cons_zero, List.getElem?_cons_succ, List.set_cons_zero, List.set_cons_succ, List.getD_cons_zero, List.getD_cons_succ, List.length_cons, List.length_nil, List.nodup_nil, Option.some.injEq, Cell.dat.injEq, Cell.own.injEq, Cont.lst.injEq, D.bl.injEq, D.int.injEq, D.str.injEq, D.tup.injEq, D.lst.injEq, Arg.d.injEq, List.cons.injEq, exists_and_left, exists_and_right, exists_eq_left', exists_eq_left, exists_eq_right, exists_eq_right', exists_eq, exists_eq', and_true, true_and, and_assoc, and_self, exists_const, reduceCtorEq]
      simp only [Bool.not_true, Bool.false_eq_true, false_implies, true_implies, true_and]
      refine c2_is_list_ok (by omega) (by omega) (by simpa using ht) (gAll_map ?_)
      simp only [gIsB, gNotB, D.adr.injEq, Cont.pool.injEq, ixN31, ne_eq, List.map_cons, List.map_nil, wPoolOpen, wPoolClose, wPop0, wPopTo, wListOwn, wRemove, wRaise0, wRaise1, wAugOwn, wEnumL, wTru, wSlA, gCatA, gLtT, gLeT, wFrz, wChain3, wAttr, wMkF, wEnumT, wRevT, wDict0, wDict1, numD3, Nat.reduceAdd, atI0, atI1, atI2, atI3, atI4, ixN51, ixN52, ixN53, List.length_map, wNever, scal, V.int.injEq, V.str.injEq, V.bl.injEq, wSq, wNext, wBreak, wCont, wDrop, wRet, wRetN, wIfS, wAsg, wPar, wLstOwn, wAppend, wSetOwn, wIxOwn, wPeek, wRetOwn, wRetFr, wFor, wB, wNot, wAnd, wOr, wAndV, wOrV, wNotV, wIf, wChain, wNil, wCons, wCB, wTup, wLst, wNoPart, wPart, wSlT, wSlL, wSeq, wRng1, wRng2, wZip, wName, wNilT, wConsT, wTupT, wYes, wNeg, wVar, wC, wOp, wcNil, wcCons, wcOwn, wCall, wCallOwn, slots, cellsOf, OwnArgs, putBack, g2I, g2IC, gLen, gAbs, gGcd, gInt1, gTupleOf, gListOf, gIx, gCatT, gCat, gEq, gNe, gIsN, gNotN, scD, seqD_t, seqD_l, seqD_f, isNonD, List.nodup_cons, List.mem_cons, List.not_mem_nil, or_false, not_false_eq_true, Nat.reduceEqDiff, L3.Keeps, ends, wipeD, List.replicate, List.cons_append, List.nil_append, List.append_nil, List.getElem?_cons_zero, List.getElem?_cons_succ, List.set_cons_zero, List.set_cons_succ, List.getD_cons_zero, List.getD_cons_succ, List.length_cons, List.length_nil, List.nodup_nil, Option.some.injEq, Cell.dat.injEq, Cell.own.injEq, Cont.lst.injEq, D.bl.injEq, D.int.injEq, D.str.injEq, D.tup.injEq, D.lst.injEq, Arg.d.injEq, List.cons.injEq, exists_and_left, exists_and_right, exists_eq_left', exists_eq_left, exists_eq_right, exists_eq_right', exists_eq, exists_eq', and_true, true_and, and_assoc, and_self, exists_const, reduceCtorEq]
      exact hq
theorem li_shape {d : D} (h : isLi d = true) : ∃ ds, d = .tup ds ∧ 1 ≤ ds.length ∧ ds.length ≤ 6 ∧ ∀ x ∈ ds, isTh x = true := by
  cases d <;> simp [isLi] at h
  obtain ⟨⟨h1, h2⟩, h3⟩ := h
  simp [isTupOf] at h1
  exact ⟨_, rfl, by omega, by omega, by simpa using h2⟩
theorem ok_is_list (T : Txt K mg) : FnOk P w K mg base (L2.CX P w) 4 T.f_is_list T.fd_is_list ["thing"] (spOf K 1 (fs_is_list K)) := by
  refine def_ok T.F_is_list sc_is_list (wb := w_is_list K) pure_is_list ?_
  intro cdv A outer s H E hr tk
  exact ⟨_, (pss_cons (ps_if (pt_not (pt_val (pe_callS (ok_is_tuple_of T) (hr.mono (by decide)) rfl T.g_is_tuple_of T.k_is_tuple_of T.b_is_tuple_of (fun σ => passAt tk σ) (pa_cons pe_int (pa_cons (pe_glob (v := .int 6) rfl T.c_MOST_THRESHOLDS ⟨_, rfl⟩) (pa_cons (pv 0) pa_nil))))))
        (pss_one (ps_ret pe_bl))
        pss_nil)
      (pss_cons (ps_if (pt_not (pt_val (pe_callB (cr_all (by rfl)) (by rfl) T.z_all (by decide +kernel) (pa_cons (pe_lc (own := [("threshold", 1)]) (g := (gName 1)) (tt := tYes) (te := (tCallS (spOf K 1 (fs_is_threshold K)) (L2.WE W0) (tCons (tVar 1) tNil))) rfl sc_is_list.nd (pi_seq (pv 0)) (blkOk_by (N := ["thing", "threshold", "low", "high"]) (sc := defScope s_is_list) (by decide +kernel)) (fun _ _ _ _ _ => (pg_name (i := 1) sc_is_list.nd rfl (by first | exact Or.inl rfl | exact Or.inr rfl))) (fun _ _ _ _ _ => pts_nil) (fun _ _ _ _ _ => (pe_callS (ok_is_threshold T) (hr.mono (by decide)) rfl T.g_is_threshold T.k_is_threshold T.b_is_threshold (fun σ => passAt L2.takes0 σ) (pa_cons (pv 1) pa_nil)))) pa_nil))))
        (pss_one (ps_ret pe_bl))
        pss_nil)
      (pss_one (ps_ret (pe_callB (cr_all (by rfl)) (by rfl) T.z_all (by decide +kernel) (pa_cons (pe_lc (own := [("low", 2), ("high", 3)]) (g := (gTup K 2 (gCons (gName 2) (gCons (gName 3) gNil)))) (tt := tYes) (te := (tCallS (spOf K 2 (fs_at_most K)) (L2.WE W0) (tCons (tVar 2) (tCons (tVar 3) tNil)))) rfl sc_is_list.nd (RZ.pi_zipA (by rfl) T.z_zip (pa_cons (pv 0) (pa_cons (pe_slice sl_tupA (pv 0) (po_some pe_int) po_none) pa_nil))) (blkOk_by (N := ["thing", "threshold", "low", "high"]) (sc := defScope s_is_list) (by decide +kernel)) (fun _ _ _ _ _ => (pg_tup (by rfl) (pgs_cons (pg_name (i := 2) sc_is_list.nd rfl (by first | exact Or.inl rfl | exact Or.inr rfl)) (pgs_cons (pg_name (i := 3) sc_is_list.nd rfl (by first | exact Or.inl rfl | exact Or.inr rfl)) pgs_nil)))) (fun _ _ _ _ _ => pts_nil) (fun _ _ _ _ _ => (pe_callS (ok_at_most T) (hr.mono (by decide)) rfl T.g_at_most T.k_at_most T.b_at_most (fun σ => passAt L2.takes0 σ) (pa_cons (pv 2) (pa_cons (pv 3) pa_nil))))) pa_nil)))))),
    (ds_seq (ds_if (dt_not (dt_B (de_call (n := 3) (fs := fs_is_tuple_of K) (dac_cons de_int (dac_cons de_int (dac_cons (de_var 0) dac_nil)))))) (ds_ret de_bl) ds_nil)
      (ds_seq (ds_if (dt_not (dt_B (de_cb o_all (da_cons (de_lc (vs := [1]) (wI := (wSeq (wVar 0))) (wg := (wName 1)) (wt := wYes) (we := (wCall 1 (fs_is_threshold K) (wcCons (wVar 1) wcNil))) (di_seq (de_var 0)) (dg_name 1) dt_yes (de_call (n := 1) (fs := fs_is_threshold K) (dac_cons (de_var 1) dac_nil)) (by decide)) da_nil)))) (ds_ret de_bl) ds_nil)
      (ds_ret (de_cb o_all (da_cons (de_lc (vs := [2, 3]) (wI := (wZip (wCons (wVar 0) (wCons (wSlA (wVar 0) (wPart (wC (.int 1))) wNoPart) wNil)))) (wg := (wTupT 2 (wConsT (wName 2) (wConsT (wName 3) wNilT)))) (wt := wYes) (we := (wCall 2 (fs_at_most K) (wcCons (wVar 2) (wcCons (wVar 3) wcNil)))) (di_zip (da_cons (de_var 0) (da_cons (de_slA (de_var 0) (do_part de_int) do_no) da_nil))) (dg_tup (n := 2) (dgs_cons (dg_name 2) (dgs_cons (dg_name 3) dgs_nil))) dt_yes (de_call (n := 2) (fs := fs_at_most K) (dac_cons (de_var 2) (dac_cons (de_var 3) dac_nil))) (by decide)) da_nil)))))⟩
abbrev s_ascends : Stmt := topS 6
theorem sc_ascends : FnScope ["things", "low", "high"] ["things"] (defScope s_ascends) := ⟨rfl, rfl, rfl, by decide +kernel, rfl, by decide +kernel, by decide +kernel⟩
def c1_ascends (K : PySem.W.Frag) : EW := wLc (wZip (wCons (wVar 0) (wCons (wSlA (wVar 0) (wPart (wC (.int 1))) wNoPart) wNil))) (wTupT 2 (wConsT (wName 1) (wConsT (wName 2) wNilT))) wYes (wOp gLtT (wVar 1) (wVar 2)) [1, 2]
def w_ascends (K : PySem.W.Frag) : SW := (wRet (wCB gAll (wCons (c1_ascends K) wNil)))
def ltP : D → Bool | .tup [.tup [.int a, .int b], .tup [.int c, .int d]] => HT.lexLt [a, b] [c, d] | _ => false
def ascJ (ds : List D) : Bool := (zipD ds (ds.drop 1)).all ltP
def PairD (d : D) : Prop := ∃ a b : Int, d = .tup [.int a, .int b]
def fs_ascends (K : PySem.W.Frag) : FS := fun cs q _ => ∃ ds : List D, cs = [.dat (.tup ds)] ∧ ds.length ≤ 900 ∧ (∀ d ∈ ds, PairD d) ∧ q (.bl (ascJ ds)) cs
theorem c1_ascends_ok {ds : List D} {c1 c2 : Cell} {q : D → List Cell → Prop} {e : Xn → List Cell → Prop} (hn : ds.length ≤ 900) (hp : ∀ d ∈ ds, PairD d)
    (hq : q (.lst ((zipD ds (ds.drop 1)).map fun d => .bl (ltP d))) [.dat (.tup ds), .any, .any]) : c1_ascends K [.dat (.tup ds), c1, c2] q e := by
  unfold c1_ascends wLc
  refine ⟨_, rfl, _, rfl, 1, rfl, ds, rfl, ds, ds.drop 1, .inl (by rw [cutD1]), lc_fm (fun d => .bl (ltP d)) (fun _ => true) ?_ (fun d hm k1 k2 h1 _ => ?_) (by rw [filter_true]; exact hq)⟩
  · unfold zipD
    rw [List.length_zipWith]
    omega
  · obtain ⟨x, y, hx, hy, rfl⟩ := zip_mem hm
    obtain ⟨a, b, rfl⟩ := hp x hx
    obtain ⟨c, d, rfl⟩ := hp y (List.mem_of_mem_drop hy)
    simp only [gIsB, gNotB, D.adr.injEq, Cont.pool.injEq, ixN31, ne_eq, List.map_cons, List.map_nil, wPoolOpen, wPoolClose, wPop0, wPopTo, wListOwn, wRemove, wRaise0, wRaise1, wAugOwn, wEnumL, wTru, wSlA, gCatA, gLtT, gLeT, wFrz, wChain3, wAttr, wMkF, wEnumT, wRevT, wDict0, wDict1, numD3, Nat.reduceAdd, atI0, atI1, atI2, atI3, atI4, ixN51, ixN52, ixN53, List.length_map, wNever, scal, V.int.injEq, V.str.injEq, V.bl.injEq, wSq, wNext, wBreak, wCont, wDrop, wRet, wRetN, wIfS, wAsg, wPar, wLstOwn, wAppend, wSetOwn, wIxOwn, wPeek, wRetOwn, wRetFr, wFor, wB, wNot, wAnd, wOr, wAndV, wOrV, wNotV, wIf, wChain, wNil, wCons, wCB, wTup, wLst, wNoPart, wPart, wSlT, wSlL, wSeq, wRng1, wRng2, wZip, wName, wNilT, wConsT, wTupT, wYes, wNeg, wVar, wC, wOp, wcNil, wcCons, wcOwn, wCall, wCallOwn, slots, cellsOf, OwnArgs, putBack, g2I, g2IC, gLen, gAbs, gGcd, gInt1, gTupleOf, gListOf, gIx, gCatT, gCat, gEq, gNe, gIsN, gNotN, scD, seqD_t, seqD_l, seqD_f, isNonD, List.nodup_cons, List.mem_cons, List.not_mem_nil, or_false, not_false_eq_true, Nat.reduceEqDiff, L3.Keeps, ends, wipeD, List.replicate, List.cons_append, List.nil_append, List.append_nil, List.getElem?_cons_zero, List.getElem?_cons_succ, List.set_cons_zero, List.set_cons_succ, List.getD_cons_zero, List.getD_cons_succ, List.length_cons, List.length_nil, List.nodup_nil, Option.some.injEq, Cell.dat.injEq, Cell.own.injEq, Cont.lst.injEq, D.bl.injEq, D.int.injEq, D.str.injEq, D.tup.injEq, D.lst.injEq, Arg.d.injEq, List.cons.injEq, exists_and_left, exists_and_right, exists_eq_left', exists_eq_left, exists_eq_right, exists_eq_right', exists_eq, exists_eq', and_true, true_and, and_assoc, and_self, exists_const, reduceCtorEq]
    simp only [true_implies]
    exact ⟨⟨[a, b], rfl, [c, d], rfl, h1 rfl _ rfl⟩, fun z => z.elim⟩
theorem pure_ascends : PureD 1 2 (fs_ascends K) (w_ascends K) := by
  rintro cs q e - ⟨ds, rfl, hn, hp, hq⟩
  simp only [w_ascends, gIsB, gNotB, D.adr.injEq, Cont.pool.injEq, ixN31, ne_eq, List.map_cons, List.map_nil, wPoolOpen, wPoolClose, wPop0, wPopTo, wListOwn, wRemove, wRaise0, wRaise1, wAugOwn, wEnumL, wTru, wSlA, gCatA, gLtT, gLeT, wFrz, wChain3, wAttr, wMkF, wEnumT, wRevT, wDict0, wDict1, numD3, Nat.reduceAdd, atI0, atI1, atI2, atI3, atI4, ixN51, ixN52, ixN53, List.length_map, wNever, scal, V.int.injEq, V.str.injEq, V.bl.injEq, wSq, wNext, wBreak, wCont, wDrop, wRet, wRetN, wIfS, wAsg, wPar, wLstOwn, wAppend, wSetOwn, wIxOwn, wPeek, wRetOwn, wRetFr, wFor, wB, wNot, wAnd, wOr, wAndV, wOrV, wNotV, wIf, wChain, wNil, wCons, wCB, wTup, wLst, wNoPart, wPart, wSlT, wSlL, wSeq, wRng1, wRng2, wZip, wName, wNilT, wConsT, wTupT, wYes, wNeg, wVar, wC, wOp, wcNil, wcCons, wcOwn, wCall, wCallOwn, slots, cellsOf, OwnArgs, putBack, g2I, g2IC, gLen, gAbs, gGcd, gInt1, gTupleOf, gListOf, gIx, gCatT, gCat, gEq, gNe, gIsN, gNotN, scD, seqD_t, seqD_l, seqD_f, isNonD, List.nodup_cons, List.mem_cons, List.not_mem_nil, or_false, not_false_eq_true, Nat.reduceEqDiff, L3.Keeps, ends, wipeD, List.replicate, List.cons_append, List.nil_append, List.append_nil, List.getElem?_cons_zero, List.getElem?_cons_succ, List.set_cons_zero, List.set_cons_succ, List.getD_cons_zero, List.getD_cons_succ, List.length_cons, List.length_nil, List.nodup_nil, Option.some.injEq, Cell.dat.injEq, Cell.own.injEq, Cont.lst.injEq, D.bl.injEq, D.int.injEq, D.str.injEq, D.tup.injEq, D.lst.injEq, Arg.d.injEq, List.cons.injEq, exists_and_left, exists_and_right, exists_eq_left', exists_eq_left, exists_eq_right, exists_eq_right', exists_eq, exists_eq', and_true, true_and, and_assoc, and_self, exists_const, reduceCtorEq]
  refine c1_ascends_ok hn hp (gAll_map ?_)
  simp only [gIsB, gNotB, D.adr.injEq, Cont.pool.injEq, ixN31, ne_eq, List.map_cons, List.map_nil, wPoolOpen, wPoolClose, wPop0, wPopTo, wListOwn, wRemove, wRaise0, wRaise1, wAugOwn, wEnumL, wTru, wSlA, gCatA, gLtT, gLeT, wFrz, wChain3, wAttr, wMkF, wEnumT, wRevT, wDict0, wDict1, numD3, Nat.reduceAdd, atI0, atI1, atI2, atI3, atI4, ixN51, ixN52, ixN53, List.length_map, wNever, scal, V.int.injEq, V.str.injEq, V.bl.injEq, wSq, wNext, wBreak, wCont, wDrop, wRet, wRetN, wIfS, wAsg, wPar, wLstOwn, wAppend, wSetOwn, wIxOwn, wPeek, wRetOwn, wRetFr, wFor, wB, wNot, wAnd, wOr, wAndV, wOrV, wNotV, wIf, wChain, wNil, wCons, wCB, wTup, wLst, wNoPart, wPart, wSlT, wSlL, wSeq, wRng1, wRng2, wZip, wName, wNilT, wConsT, wTupT, wYes, wNeg, wVar, wC, wOp, wcNil, wcCons, wcOwn, wCall, wCallOwn, slots, cellsOf, OwnArgs, putBack, g2I, g2IC, gLen, gAbs, gGcd, gInt1, gTupleOf, gListOf, gIx, gCatT, gCat, gEq, gNe, gIsN, gNotN, scD, seqD_t, seqD_l, seqD_f, isNonD, List.nodup_cons, List.mem_cons, List.not_mem_nil, or_false, not_false_eq_true, Nat.reduceEqDiff, L3.Keeps, ends, wipeD, List.replicate, List.cons_append, List.nil_append, List.append_nil, List.getElem?_cons_zero, List.getElem?_cons_succ, List.set_cons_zero, List.set_cons_succ, List.getD_cons_zero, List.getD_cons_succ, List.length_cons, List.length_nil, List.nodup_nil, Option.some.injEq, Cell.dat.injEq, Cell.own.injEq, Cont.lst.injEq, D.bl.injEq, D.int.injEq, D.str.injEq, D.tup.injEq, D.lst.injEq, Arg.d.injEq, List.cons.injEq, exists_and_left, exists_and_right, exists_eq_left', exists_eq_left, exists_eq_right, exists_eq_right', exists_eq, exists_eq', and_true, true_and, and_assoc, and_self, exists_const, reduceCtorEq]
  exact hq
theorem ok_ascends (T : Txt K mg) : FnOk P w K mg base (L2.CX P w) 1 T.f_ascends T.fd_ascends ["things"] (spOf K 1 (fs_ascends K)) := by
  refine def_ok T.F_ascends sc_ascends (wb := w_ascends K) pure_ascends ?_
  intro cdv A outer s H E hr tk
  exact ⟨_, (pss_one (ps_ret (pe_callB (cr_all (by rfl)) (by rfl) T.z_all (by decide +kernel) (pa_cons (pe_lc (own := [("low", 1), ("high", 2)]) (g := (gTup K 2 (gCons (gName 1) (gCons (gName 2) gNil)))) (tt := tYes) (te := (tOp (rLtT K) (tVar 1) (tVar 2))) rfl sc_ascends.nd (RZ.pi_zipA (by rfl) T.z_zip (pa_cons (pv 0) (pa_cons (pe_slice sl_tupA (pv 0) (po_some pe_int) po_none) pa_nil))) (blkOk_by (N := ["things", "low", "high"]) (sc := defScope s_ascends) (by decide +kernel)) (fun _ _ _ _ _ => (pg_tup (by rfl) (pgs_cons (pg_name (i := 1) sc_ascends.nd rfl (by first | exact Or.inl rfl | exact Or.inr rfl)) (pgs_cons (pg_name (i := 2) sc_ascends.nd rfl (by first | exact Or.inl rfl | exact Or.inr rfl)) pgs_nil)))) (fun _ _ _ _ _ => pts_nil) (fun _ _ _ _ _ => (pe_cmpR (op_ltT (Nat.lt_of_le_of_lt (Nat.le_add_right _ 64) hr.units)) (pv 1) (pv 2) (nomark _)))) pa_nil)))),
    (ds_ret (de_cb o_all (da_cons (de_lc (vs := [1, 2]) (wI := (wZip (wCons (wVar 0) (wCons (wSlA (wVar 0) (wPart (wC (.int 1))) wNoPart) wNil)))) (wg := (wTupT 2 (wConsT (wName 1) (wConsT (wName 2) wNilT)))) (wt := wYes) (we := (wOp gLtT (wVar 1) (wVar 2))) (di_zip (da_cons (de_var 0) (da_cons (de_slA (de_var 0) (do_part de_int) do_no) da_nil))) (dg_tup (n := 2) (dgs_cons (dg_name 1) (dgs_cons (dg_name 2) dgs_nil))) dt_yes (de_op o_ltT (de_var 1) (de_var 2)) (by decide)) da_nil)))⟩
abbrev s_is_width : Stmt := topS 24
theorem sc_is_width : FnScope ["thing"] ["thing"] (defScope s_is_width) := ⟨rfl, rfl, rfl, by decide +kernel, rfl, by decide +kernel, by decide +kernel⟩
def w_is_width (K : PySem.W.Frag) : SW := (wRet (wCall 3 (fs_is_between K) (wcCons (wC (.int 0)) (wcCons (wC (.int 12)) (wcCons (wVar 0) wcNil)))))
def fs_is_width (K : PySem.W.Frag) : FS := fun cs q _ => ∃ d, cs = [.dat d] ∧ OkD K d ∧ q (.bl (isBetw 0 12 d)) cs
theorem pure_is_width : PureD 1 0 (fs_is_width K) (w_is_width K) := by
  rintro cs q e - ⟨d, rfl, hd, hq⟩
  simp only [w_is_width, fs_is_between, hd, gIsB, gNotB, D.adr.injEq, Cont.pool.injEq, ixN31, ne_eq, List.map_cons, List.map_nil, wPoolOpen, wPoolClose, wPop0, wPopTo, wListOwn, wRemove, wRaise0, wRaise1, wAugOwn, wEnumL, wTru, wSlA, gCatA, gLtT, gLeT, wFrz, wChain3, wAttr, wMkF, wEnumT, wRevT, wDict0, wDict1, numD3, Nat.reduceAdd, atI0, atI1, atI2, atI3, atI4, ixN51, ixN52, ixN53, List.length_map, wNever, scal, V.int.injEq, V.str.injEq, V.bl.injEq, wSq, wNext, wBreak, wCont, wDrop, wRet, wRetN, wIfS, wAsg, wPar, wLstOwn, wAppend, wSetOwn, wIxOwn, wPeek, wRetOwn, wRetFr, wFor, wB, wNot, wAnd, wOr, wAndV, wOrV, wNotV, wIf, wChain, wNil, wCons, wCB, wTup, wLst, wNoPart, wPart, wSlT, wSlL, wSeq, wRng1, wRng2, wZip, wName, wNilT, wConsT, wTupT, wYes, wNeg, wVar, wC, wOp, wcNil, wcCons, wcOwn, wCall, wCallOwn, slots, cellsOf, OwnArgs, putBack, g2I, g2IC, gLen, gAbs, gGcd, gInt1, gTupleOf, gListOf, gIx, gCatT, gCat, gEq, gNe, gIsN, gNotN, scD, seqD_t, seqD_l, seqD_f, isNonD, List.nodup_cons, List.mem_cons, List.not_mem_nil, or_false, not_false_eq_true, Nat.reduceEqDiff, L3.Keeps, ends, wipeD, List.replicate, List.cons_append, List.nil_append, List.append_nil, List.getElem?_cons_zero, List.getElem?_cons_succ, List.set_cons_zero, List.set_cons_succ, List.getD_cons_zero, List.getD_cons_succ, List.length_cons, List.length_nil, List.nodup_nil, Option.some.injEq, Cell.dat.injEq, Cell.own.injEq, Cont.lst.injEq, D.bl.injEq, D.int.injEq, D.str.injEq, D.tup.injEq, D.lst.injEq, Arg.d.injEq, List.cons.injEq, exists_and_left, exists_and_right, exists_eq_left', exists_eq_left, exists_eq_right, exists_eq_right', exists_eq, exists_eq', and_true, true_and, and_assoc, and_self, exists_const, reduceCtorEq]
  exact hq
def ThOk (t : Th) : Prop := isTh (thD t) = true
theorem th_typed {d : D} (h : isTh d = true) : ∃ t : Th, d = thD t ∧ ThOk t := by
  obtain ⟨a, b, rfl, _⟩ := th_shape h
  exact ⟨(a, b), rfl, h⟩
theorem ThOk.b {t : Th} (h : ThOk t) : 1 ≤ t.1 ∧ t.1 ≤ 1000000 ∧ 1 ≤ t.2 ∧ t.2 ≤ 144 := by
  obtain ⟨a, b, e, h1, h2, h3, h4⟩ := th_shape h
  unfold thD at e
  simp only [D.tup.injEq, List.cons.injEq, D.int.injEq, and_true] at e
  obtain ⟨e1, e2⟩ := e
  omega
def leT (a b : Th) : Prop := a.1 * b.2 ≤ b.1 * a.2
theorem leT_refl {a : Th} : leT a a := Int.le_refl _
theorem leT_trans {a b c : Th} (ha : 0 < a.2) (hb : 0 < b.2) (hc : 0 < c.2) (h1 : leT a b) (h2 : leT b c) : leT a c := by
  unfold leT at *
  have e1 := Int.mul_le_mul_of_nonneg_right h1 (Int.le_of_lt hc)
  have e2 := Int.mul_le_mul_of_nonneg_right h2 (Int.le_of_lt ha)
  have : (a.1 * c.2) * b.2 ≤ (c.1 * a.2) * b.2 := by
    calc (a.1 * c.2) * b.2 = a.1 * b.2 * c.2 := by ac_rfl
      _ ≤ b.1 * a.2 * c.2 := e1
      _ = b.1 * c.2 * a.2 := by ac_rfl
      _ ≤ c.1 * b.2 * a.2 := e2
      _ = (c.1 * a.2) * b.2 := by ac_rfl
  exact Int.le_of_mul_le_mul_right this hb
def thP (t : Th) : PyData := .tuple [.int t.1, .int t.2]
theorem py_th (t : Th) : toPy (thD t) = some (thP t) := rfl
theorem pys_th : ∀ xs : List Th, toPys (xs.map thD) = some (xs.map thP)
  | [] => rfl
  | x :: xs => by
    show (toPy (thD x)).bind (fun p => (toPys (xs.map thD)).map fun ps => p :: ps) = _
    rw [pys_th xs]
    rfl
theorem th_eqv (a b : Th) : PyData.eqv (thP a) (thP b) = decide (a = b) := by
  obtain ⟨a1, a2⟩ := a
  obtain ⟨b1, b2⟩ := b
  simp only [thP, PyData.eqv, PyData.eqvAll, Bool.and_true, Prod.mk.injEq]
  by_cases h1 : a1 = b1 <;> by_cases h2 : a2 = b2 <;> simp [h1, h2]
theorem th_place {xs : List Th} {b : Th} (h : b ∈ xs) : ∃ j, SeqAt.dataPlace (xs.map thP) (thP b) = some j ∧ xs[j]? = some b := by
  unfold SeqAt.dataPlace
  rw [List.findIdx?_map]
  have e : (fun y => PyData.eqv y (thP b)) ∘ thP = fun a => decide (a = b) := funext fun a => th_eqv a b
  rw [e]
  cases q : xs.findIdx? fun a => decide (a = b) with
  | none =>
    rw [List.findIdx?_eq_none_iff] at q
    have := q b h
    simp at this
  | some j =>
    obtain ⟨h1, h2, _⟩ := List.findIdx?_eq_some_iff_getElem.mp q
    refine ⟨j, rfl, ?_⟩
    rw [List.getElem?_eq_getElem h1]
    exact congrArg some (of_decide_eq_true h2)
theorem sh_ths (xs : List Th) : SeqAt.shaped (.list (xs.map thP)) = true := by
  have h : ShD 4 (.lst (xs.map thD)) := fun d hd => by
    obtain ⟨t, _, rfl⟩ := List.mem_map.mp hd
    intro x hx
    have : x = .int t.1 ∨ x = .int t.2 := by simpa [thD] using hx
    rcases this with rfl | rfl <;> trivial
  have := (shD_sh h (by decide)).2
  have e : pyD (.lst (xs.map thD)) = .list (xs.map thP) := by
    unfold pyD
    show ((toPys (xs.map thD)).map PyData.list).getD .none = _
    rw [pys_th]
    rfl
  rwa [e] at this
theorem sh_th (t : Th) : SeqAt.shaped (thP t) = true := by
  have h : ShD 2 (thD t) := fun x hx => by
    have : x = .int t.1 ∨ x = .int t.2 := by simpa [thD] using hx
    rcases this with rfl | rfl <;> trivial
  exact (shD_sh h (by decide)).2
theorem ok_is_width (T : Txt K mg) : FnOk P w K mg base (L2.CX P w) 3 T.f_is_width T.fd_is_width ["thing"] (spOf K 1 (fs_is_width K)) := by
  refine def_ok T.F_is_width sc_is_width (wb := w_is_width K) pure_is_width ?_
  intro cdv A outer s H E hr tk
  exact ⟨_, (pss_one (ps_ret (pe_callS (ok_is_between T) (hr.mono (by decide)) rfl T.g_is_between T.k_is_between T.b_is_between (fun σ => passAt tk σ) (pa_cons pe_int (pa_cons (pe_glob (v := .int 12) rfl T.c_MOST_WIDTH ⟨_, rfl⟩) (pa_cons (pv 0) pa_nil)))))),
    (ds_ret (de_call (n := 3) (fs := fs_is_between K) (dac_cons de_int (dac_cons de_int (dac_cons (de_var 0) dac_nil)))))⟩
abbrev s_is_sort : Stmt := topS 32
theorem sc_is_sort : FnScope ["thing"] ["thing"] (defScope s_is_sort) := ⟨rfl, rfl, rfl, by decide +kernel, rfl, by decide +kernel, by decide +kernel⟩
def w_is_sort (K : PySem.W.Frag) : SW := (wRet (wAndV (wCall 3 (fs_is_tuple_of K) (wcCons (wC (.int 2)) (wcCons (wC (.int 2)) (wcCons (wVar 0) wcNil)))) (wAndV (wCall 1 (fs_is_width K) (wcCons (wOp gIx (wVar 0) (wC (.int 0))) wcNil)) (wCall 3 (fs_is_between K) (wcCons (wC (.int 1)) (wcCons (wC (.int 6)) (wcCons (wOp gIx (wVar 0) (wC (.int 1))) wcNil)))))))
def isSo : D → Bool | .tup [x, y] => isBetw 0 12 x && isBetw 1 6 y | _ => false
theorem so_not_two {d : D} (h : isTupOf 2 2 d = false) : isSo d = false := by
  cases d with
  | tup ds =>
    match ds with
    | [] => rfl
    | [x] => rfl
    | [x, y] => simp [isTupOf] at h
    | x :: y :: z :: r => rfl
  | _ => rfl
def fs_is_sort (K : PySem.W.Frag) : FS := fun cs q _ => ∃ d, cs = [.dat d] ∧ OkD K d ∧ q (.bl (isSo d)) cs
theorem pure_is_sort : PureD 1 0 (fs_is_sort K) (w_is_sort K) := by
  rintro cs q e - ⟨d, rfl, hd, hq⟩
  cases h : isTupOf 2 2 d with
  | false =>
    rw [so_not_two h] at hq
    simp only [w_is_sort, fs_is_tuple_of, h, hd, gIsB, gNotB, D.adr.injEq, Cont.pool.injEq, ixN31, ne_eq, List.map_cons, List.map_nil, wPoolOpen, wPoolClose, wPop0, wPopTo, wListOwn, wRemove, wRaise0, wRaise1, wAugOwn, wEnumL, wTru, wSlA, gCatA, gLtT, gLeT, wFrz, wChain3, wAttr, wMkF, wEnumT, wRevT, wDict0, wDict1, numD3, Nat.reduceAdd, atI0, atI1, atI2, atI3, atI4, ixN51, ixN52, ixN53, List.length_map, wNever, scal, V.int.injEq, V.str.injEq, V.bl.injEq, wSq, wNext, wBreak, wCont, wDrop, wRet, wRetN, wIfS, wAsg, wPar, wLstOwn, wAppend, wSetOwn, wIxOwn, wPeek, wRetOwn, wRetFr, wFor, wB, wNot, wAnd, wOr, wAndV, wOrV, wNotV, wIf, wChain, wNil, wCons, wCB, wTup, wLst, wNoPart, wPart, wSlT, wSlL, wSeq, wRng1, wRng2, wZip, wName, wNilT, wConsT, wTupT, wYes, wNeg, wVar, wC, wOp, wcNil, wcCons, wcOwn, wCall, wCallOwn, slots, cellsOf, OwnArgs, putBack, g2I, g2IC, gLen, gAbs, gGcd, gInt1, gTupleOf, gListOf, gIx, gCatT, gCat, gEq, gNe, gIsN, gNotN, scD, seqD_t, seqD_l, seqD_f, isNonD, List.nodup_cons, List.mem_cons, List.not_mem_nil, or_false, not_false_eq_true, Nat.reduceEqDiff, L3.Keeps, ends, wipeD, List.replicate, List.cons_append, List.nil_append, List.append_nil, List.getElem?_cons_zero, List.getElem?_cons_succ, List.set_cons_zero, List.set_cons_succ, List.getD_cons_zero, List.getD_cons_succ, List.length_cons, List.length_nil, List.nodup_nil, Option.some.injEq, Cell.dat.injEq, Cell.own.injEq, Cont.lst.injEq, D.bl.injEq, D.int.injEq, D.str.injEq, D.tup.injEq, D.lst.injEq, Arg.d.injEq, List.cons.injEq, exists_and_left, exists_and_right, exists_eq_left', exists_eq_left, exists_eq_right, exists_eq_right', exists_eq, exists_eq', and_true, true_and, and_assoc, and_self, exists_const, reduceCtorEq]
    simpa using hq
  | true =>
    obtain ⟨x, y, rfl⟩ := tup_two h
    have hx := okTup hd (d := x) (by simp)
    have hy := okTup hd (d := y) (by simp)
    simp only [w_is_sort, fs_is_tuple_of, fs_is_width, fs_is_between, seqD_t, h, hd, hx, hy, gIsB, gNotB, D.adr.injEq, Cont.pool.injEq, ixN31, ne_eq, List.map_cons, List.map_nil, wPoolOpen, wPoolClose, wPop0, wPopTo, wListOwn, wRemove, wRaise0, wRaise1, wAugOwn, wEnumL, wTru, wSlA, gCatA, gLtT, gLeT, wFrz, wChain3, wAttr, wMkF, wEnumT, wRevT, wDict0, wDict1, numD3, Nat.reduceAdd, atI0, atI1, atI2, atI3, atI4, ixN51, ixN52, ixN53, List.length_map, wNever, scal, V.int.injEq, V.str.injEq, V.bl.injEq, wSq, wNext, wBreak, wCont, wDrop, wRet, wRetN, wIfS, wAsg, wPar, wLstOwn, wAppend, wSetOwn, wIxOwn, wPeek, wRetOwn, wRetFr, wFor, wB, wNot, wAnd, wOr, wAndV, wOrV, wNotV, wIf, wChain, wNil, wCons, wCB, wTup, wLst, wNoPart, wPart, wSlT, wSlL, wSeq, wRng1, wRng2, wZip, wName, wNilT, wConsT, wTupT, wYes, wNeg, wVar, wC, wOp, wcNil, wcCons, wcOwn, wCall, wCallOwn, slots, cellsOf, OwnArgs, putBack, g2I, g2IC, gLen, gAbs, gGcd, gInt1, gTupleOf, gListOf, gIx, gCatT, gCat, gEq, gNe, gIsN, gNotN, scD, seqD_t, seqD_l, seqD_f, isNonD, List.nodup_cons, List.mem_cons, List.not_mem_nil, or_false, not_false_eq_true, Nat.reduceEqDiff, L3.Keeps, ends, wipeD, List.replicate, List.cons_append, List.nil_append, List.append_nil, List.getElem?_cons_zero, List.getElem?_cons_succ, List.set_cons_zero, List.set_cons_succ, List.getD_cons_zero, List.getD_cons_succ, List.length_cons, List.length_nil, List.nodup_nil, Option.some.injEq, Cell.dat.injEq, Cell.own.injEq, Cont.lst.injEq, D.bl.injEq, D.int.injEq, D.str.injEq, D.tup.injEq, D.lst.injEq, Arg.d.injEq, List.cons.injEq, exists_and_left, exists_and_right, exists_eq_left', exists_eq_left, exists_eq_right, exists_eq_right', exists_eq, exists_eq', and_true, true_and, and_assoc, and_self, exists_const, reduceCtorEq]
    simp only [isSo] at hq
    cases h1 : isBetw 0 12 x <;> simp [h1] at hq ⊢ <;> exact hq
theorem so_shape {d : D} (h : isSo d = true) : ∃ w c : Int, d = .tup [.int w, .int c] ∧ 0 ≤ w ∧ w ≤ 12 ∧ 1 ≤ c ∧ c ≤ 6 := by
  cases h2 : isTupOf 2 2 d with
  | false => rw [so_not_two h2] at h; cases h
  | true =>
    obtain ⟨x, y, rfl⟩ := tup_two h2
    simp only [isSo, Bool.and_eq_true] at h
    obtain ⟨w, rfl, w0, w1⟩ := betw_int h.1
    obtain ⟨c, rfl, c0, c1⟩ := betw_int h.2
    exact ⟨w, c, rfl, w0, w1, c0, c1⟩
theorem ok_is_sort (T : Txt K mg) : FnOk P w K mg base (L2.CX P w) 4 T.f_is_sort T.fd_is_sort ["thing"] (spOf K 1 (fs_is_sort K)) := by
  refine def_ok T.F_is_sort sc_is_sort (wb := w_is_sort K) pure_is_sort ?_
  intro cdv A outer s H E hr tk
  exact ⟨_, (pss_one (ps_ret (pe_and (pe_callS (ok_is_tuple_of T) (hr.mono (by decide)) rfl T.g_is_tuple_of T.k_is_tuple_of T.b_is_tuple_of (fun σ => passAt tk σ) (pa_cons pe_int (pa_cons pe_int (pa_cons (pv 0) pa_nil)))) (pe_and (pe_callS (ok_is_width T) (hr.mono (by decide)) rfl T.g_is_width T.k_is_width T.b_is_width (fun σ => passAt tk σ) (pa_cons (pe_ix ix_seq (pv 0) pe_int (fun _ _ => rfl)) pa_nil)) (pe_one (pe_callS (ok_is_between T) (hr.mono (by decide)) rfl T.g_is_between T.k_is_between T.b_is_between (fun σ => passAt tk σ) (pa_cons pe_int (pa_cons (pe_glob (v := .int 6) rfl T.c_MOST_CAP ⟨_, rfl⟩) (pa_cons (pe_ix ix_seq (pv 0) pe_int (fun _ _ => rfl)) pa_nil))))))))),
    (ds_ret (de_and (de_call (n := 3) (fs := fs_is_tuple_of K) (dac_cons de_int (dac_cons de_int (dac_cons (de_var 0) dac_nil)))) (de_and (de_call (n := 1) (fs := fs_is_width K) (dac_cons (de_op o_ix (de_var 0) de_int) dac_nil)) (de_call (n := 3) (fs := fs_is_between K) (dac_cons de_int (dac_cons de_int (dac_cons (de_op o_ix (de_var 0) de_int) dac_nil)))))))⟩
abbrev s_is_sort_tuple : Stmt := topS 33
theorem sc_is_sort_tuple : FnScope ["thing", "sort", "width", "_"] ["thing"] (defScope s_is_sort_tuple) := ⟨rfl, rfl, rfl, by decide +kernel, rfl, by decide +kernel, by decide +kernel⟩
def c1_is_sort_tuple (K : PySem.W.Frag) : EW := wLc (wSeq (wVar 0)) (wName 1) wYes (wCall 1 (fs_is_sort K) (wcCons (wVar 1) wcNil)) [1]
def c2_is_sort_tuple (K : PySem.W.Frag) : EW := wLc (wSeq (wVar 0)) (wTupT 2 (wConsT (wName 2) (wConsT (wName 3) wNilT))) (wB (wOp gEq (wVar 2) (wC (.int 0)))) (wC (.int 1)) [2, 3]
def w_is_sort_tuple (K : PySem.W.Frag) : SW := (wSq (wIfS (wOr (wNot (wB (wCall 3 (fs_is_tuple_of K) (wcCons (wC (.int 1)) (wcCons (wC (.int 4)) (wcCons (wVar 0) wcNil)))))) (wNot (wB (wCB gAll (wCons (c1_is_sort_tuple K) wNil))))) (wRet (wC (.bl false))) wNext)
  (wRet (wOp gLeI (wCB gLen (wCons (c2_is_sort_tuple K) wNil)) (wC (.int 1)))))
def isSea : D → Bool | .tup [.int w, _] => decide (w = 0) | _ => false
def isSs : D → Bool | .tup ds => isTupOf 1 4 (.tup ds) && ds.all isSo && decide (((ds.filter isSea).length : Int) ≤ 1) | _ => false
def fs_is_sort_tuple (K : PySem.W.Frag) : FS := fun cs q _ => ∃ d, cs = [.dat d] ∧ OkD K d ∧ q (.bl (isSs d)) cs
theorem c1_is_sort_tuple_ok {ds : List D} {c1 c2 c3 : Cell} {q : D → List Cell → Prop} {e : Xn → List Cell → Prop} (hd : OkD K (.tup ds)) (hn : ds.length ≤ 1000)
    (hq : q (.lst (ds.map fun d => .bl (isSo d))) [.dat (.tup ds), .any, c2, c3]) : c1_is_sort_tuple K [.dat (.tup ds), c1, c2, c3] q e := by
  unfold c1_is_sort_tuple wLc
  refine ⟨_, rfl, ds, rfl, lc_fm (fun d => .bl (isSo d)) (fun _ => true) hn (fun d hm k1 k2 h1 _ => ?_) (by rw [filter_true]; exact hq)⟩
  simp only [fs_is_sort, okTup hd hm, gIsB, gNotB, D.adr.injEq, Cont.pool.injEq, ixN31, ne_eq, List.map_cons, List.map_nil, wPoolOpen, wPoolClose, wPop0, wPopTo, wListOwn, wRemove, wRaise0, wRaise1, wAugOwn, wEnumL, wTru, wSlA, gCatA, gLtT, gLeT, wFrz, wChain3, wAttr, wMkF, wEnumT, wRevT, wDict0, wDict1, numD3, Nat.reduceAdd, atI0, atI1, atI2, atI3, atI4, ixN51, ixN52, ixN53, List.length_map, wNever, scal, V.int.injEq, V.str.injEq, V.bl.injEq, wSq, wNext, wBreak, wCont, wDrop, wRet, wRetN, wIfS, wAsg, wPar, wLstOwn, wAppend, wSetOwn, wIxOwn, wPeek, wRetOwn, wRetFr, wFor, wB, wNot, wAnd, wOr, wAndV, wOrV, wNotV, wIf, wChain, wNil, wCons, wCB, wTup, wLst, wNoPart, wPart, wSlT, wSlL, wSeq, wRng1, wRng2, wZip, wName, wNilT, wConsT, wTupT, wYes, wNeg, wVar, wC, wOp, wcNil, wcCons, wcOwn, wCall, wCallOwn, slots, cellsOf, OwnArgs, putBack, g2I, g2IC, gLen, gAbs, gGcd, gInt1, gTupleOf, gListOf, gIx, gCatT, gCat, gEq, gNe, gIsN, gNotN, scD, seqD_t, seqD_l, seqD_f, isNonD, List.nodup_cons, List.mem_cons, List.not_mem_nil, or_false, not_false_eq_true, Nat.reduceEqDiff, L3.Keeps, ends, wipeD, List.replicate, List.cons_append, List.nil_append, List.append_nil, List.getElem?_cons_zero, List.getElem?_cons_succ, List.set_cons_zero, List.set_cons_succ, List.getD_cons_zero, List.getD_cons_succ, List.length_cons, List.length_nil, List.nodup_nil, Option.some.injEq, Cell.dat.injEq, Cell.own.injEq, Cont.lst.injEq, D.bl.injEq, D.int.injEq, D.str.injEq, D.tup.injEq, D.lst.injEq, Arg.d.injEq, List.cons.injEq, exists_and_left, exists_and_right, exists_eq_left', exists_eq_left, exists_eq_right, exists_eq_right', exists_eq, exists_eq', and_true, true_and, and_assoc, and_self, exists_const, reduceCtorEq]
  simp only [true_implies]
  exact ⟨h1 rfl _ rfl, fun z => nomatch z⟩
theorem c2_is_sort_tuple_ok {ds : List D} {c1 c2 c3 : Cell} {q : D → List Cell → Prop} {e : Xn → List Cell → Prop} (hs : ∀ d ∈ ds, isSo d = true) (hn : ds.length ≤ 1000)
    (hq : q (.lst ((ds.filter isSea).map fun _ => .int 1)) [.dat (.tup ds), c1, .any, .any]) : c2_is_sort_tuple K [.dat (.tup ds), c1, c2, c3] q e := by
  unfold c2_is_sort_tuple wLc
  refine ⟨_, rfl, ds, rfl, lc_fm (fun _ => .int 1) isSea hn (fun d hm k1 k2 h1 h2 => ?_) hq⟩
  obtain ⟨w, c, rfl, _⟩ := so_shape (hs d hm)
  simp only [gIsB, gNotB, D.adr.injEq, Cont.pool.injEq, ixN31, ne_eq, List.map_cons, List.map_nil, wPoolOpen, wPoolClose, wPop0, wPopTo, wListOwn, wRemove, wRaise0, wRaise1, wAugOwn, wEnumL, wTru, wSlA, gCatA, gLtT, gLeT, wFrz, wChain3, wAttr, wMkF, wEnumT, wRevT, wDict0, wDict1, numD3, Nat.reduceAdd, atI0, atI1, atI2, atI3, atI4, ixN51, ixN52, ixN53, List.length_map, wNever, scal, V.int.injEq, V.str.injEq, V.bl.injEq, wSq, wNext, wBreak, wCont, wDrop, wRet, wRetN, wIfS, wAsg, wPar, wLstOwn, wAppend, wSetOwn, wIxOwn, wPeek, wRetOwn, wRetFr, wFor, wB, wNot, wAnd, wOr, wAndV, wOrV, wNotV, wIf, wChain, wNil, wCons, wCB, wTup, wLst, wNoPart, wPart, wSlT, wSlL, wSeq, wRng1, wRng2, wZip, wName, wNilT, wConsT, wTupT, wYes, wNeg, wVar, wC, wOp, wcNil, wcCons, wcOwn, wCall, wCallOwn, slots, cellsOf, OwnArgs, putBack, g2I, g2IC, gLen, gAbs, gGcd, gInt1, gTupleOf, gListOf, gIx, gCatT, gCat, gEq, gNe, gIsN, gNotN, scD, seqD_t, seqD_l, seqD_f, isNonD, List.nodup_cons, List.mem_cons, List.not_mem_nil, or_false, not_false_eq_true, Nat.reduceEqDiff, L3.Keeps, ends, wipeD, List.replicate, List.cons_append, List.nil_append, List.append_nil, List.getElem?_cons_zero, List.getElem?_cons_succ, List.set_cons_zero, List.set_cons_succ, List.getD_cons_zero, List.getD_cons_succ, List.length_cons, List.length_nil, List.nodup_nil, Option.some.injEq, Cell.dat.injEq, Cell.own.injEq, Cont.lst.injEq, D.bl.injEq, D.int.injEq, D.str.injEq, D.tup.injEq, D.lst.injEq, Arg.d.injEq, List.cons.injEq, exists_and_left, exists_and_right, exists_eq_left', exists_eq_left, exists_eq_right, exists_eq_right', exists_eq, exists_eq', and_true, true_and, and_assoc, and_self, exists_const, reduceCtorEq]
  exact ⟨fun z => h1 z _ rfl, fun z => h2 z _ rfl⟩
theorem pure_is_sort_tuple : PureD 1 3 (fs_is_sort_tuple K) (w_is_sort_tuple K) := by
  rintro cs q e - ⟨d, rfl, hd, hq⟩
  cases h : isTupOf 1 4 d with
  | false =>
    have e1 : isSs d = false := by cases d <;> simp_all [isSs]
    rw [e1] at hq
    simp only [w_is_sort_tuple, fs_is_tuple_of, h, hd, gIsB, gNotB, D.adr.injEq, Cont.pool.injEq, ixN31, ne_eq, List.map_cons, List.map_nil, wPoolOpen, wPoolClose, wPop0, wPopTo, wListOwn, wRemove, wRaise0, wRaise1, wAugOwn, wEnumL, wTru, wSlA, gCatA, gLtT, gLeT, wFrz, wChain3, wAttr, wMkF, wEnumT, wRevT, wDict0, wDict1, numD3, Nat.reduceAdd, atI0, atI1, atI2, atI3, atI4, ixN51, ixN52, ixN53, List.length_map, wNever, scal, V.int.injEq, V.str.injEq, V.bl.injEq, wSq, wNext, wBreak, wCont, wDrop, wRet, wRetN, wIfS, wAsg, wPar, wLstOwn, wAppend, wSetOwn, wIxOwn, wPeek, wRetOwn, wRetFr, wFor, wB, wNot, wAnd, wOr, wAndV, wOrV, wNotV, wIf, wChain, wNil, wCons, wCB, wTup, wLst, wNoPart, wPart, wSlT, wSlL, wSeq, wRng1, wRng2, wZip, wName, wNilT, wConsT, wTupT, wYes, wNeg, wVar, wC, wOp, wcNil, wcCons, wcOwn, wCall, wCallOwn, slots, cellsOf, OwnArgs, putBack, g2I, g2IC, gLen, gAbs, gGcd, gInt1, gTupleOf, gListOf, gIx, gCatT, gCat, gEq, gNe, gIsN, gNotN, scD, seqD_t, seqD_l, seqD_f, isNonD, List.nodup_cons, List.mem_cons, List.not_mem_nil, or_false, not_false_eq_true, Nat.reduceEqDiff, L3.Keeps, ends, wipeD, List.replicate, List.cons_append, List.nil_append, List.append_nil, List.getElem?_cons_zero, List.getElem?_cons_succ, List.set_cons_zero, List.set_cons_succ, List.getD_cons_zero, List.getD_cons_succ, List.length_cons, List.length_nil, List.nodup_nil, Option.some.injEq, Cell.dat.injEq, Cell.own.injEq, Cont.lst.injEq, D.bl.injEq, D.int.injEq, D.str.injEq, D.tup.injEq, D.lst.injEq, Arg.d.injEq, List.cons.injEq, exists_and_left, exists_and_right, exists_eq_left', exists_eq_left, exists_eq_right, exists_eq_right', exists_eq, exists_eq', and_true, true_and, and_assoc, and_self, exists_const, reduceCtorEq]
    simpa using hq
  | true =>
    cases d <;> simp [isTupOf] at h
    rename_i ds
    have h' : isTupOf 1 4 (.tup ds) = true := by simp [isTupOf]; omega
    have e1 : isSs (.tup ds) = (ds.all isSo && decide (((ds.filter isSea).length : Int) ≤ 1)) := by simp only [isSs, h', Bool.true_and]
    rw [e1] at hq
    simp only [w_is_sort_tuple, fs_is_tuple_of, h', hd, gIsB, gNotB, D.adr.injEq, Cont.pool.injEq, ixN31, ne_eq, List.map_cons, List.map_nil, wPoolOpen, wPoolClose, wPop0, wPopTo, wListOwn, wRemove, wRaise0, wRaise1, wAugOwn, wEnumL, wTru, wSlA, gCatA, gLtT, gLeT, wFrz, wChain3, wAttr, wMkF, wEnumT, wRevT, wDict0, wDict1, numD3, Nat.reduceAdd, atI0, atI1, atI2, atI3, atI4, ixN51, ixN52, ixN53, List.length_map, wNever, scal, V.int.injEq, V.str.injEq, V.bl.injEq, wSq, wNext, wBreak, wCont, wDrop, wRet, wRetN, wIfS, wAsg, wPar, wLstOwn, wAppend, wSetOwn, wIxOwn, wPeek, wRetOwn, wRetFr, wFor, wB, wNot, wAnd, wOr, wAndV, wOrV, wNotV, wIf, wChain, wNil, wCons, wCB, wTup, wLst, wNoPart, wPart, wSlT, wSlL, wSeq, wRng1, wRng2, wZip, wName, wNilT, wConsT, wTupT, wYes, wNeg, wVar, wC, wOp, wcNil, wcCons, wcOwn, wCall, wCallOwn, slots, cellsOf, OwnArgs, putBack, g2I, g2IC, gLen, gAbs, gGcd, gInt1, gTupleOf, gListOf, gIx, gCatT, gCat, gEq, gNe, gIsN, gNotN, scD, seqD_t, seqD_l, seqD_f, isNonD, List.nodup_cons, List.mem_cons, List.not_mem_nil, or_false, not_false_eq_true, Nat.reduceEqDiff, L3.Keeps, ends, wipeD, List.replicate, List.cons_append, List.nil_append, List.append_nil, List.getElem?_cons_zero, List.getElem?_cons_succ, List.set_cons_zero, List.set_cons_succ, List.getD_cons_zero, List.getD_cons_succ, List.length_cons, List.length_nil, List.nodup_nil, Option.some.injEq, Cell.dat.injEq, Cell.own.injEq, Cont.lst.injEq, D.bl.injEq, D.int.injEq, D.str.injEq, D.tup.injEq, D.lst.injEq, Arg.d.injEq, List.cons.injEq, exists_and_left, exists_and_right, exists_eq_left', exists_eq_left, exists_eq_right, exists_eq_right', exists_eq, exists_eq', and_true, true_and, and_assoc, and_self, exists_const, reduceCtorEq]
    simp only [Bool.not_true, Bool.false_eq_true, false_implies, true_implies, true_and]
    refine ⟨?_, trivial⟩
    refine c1_is_sort_tuple_ok hd (by omega) ?_
    refine gAll_map ?_
    cases ht : ds.all isSo with
    | false =>
      rw [ht] at hq
      simp only [gIsB, gNotB, D.adr.injEq, Cont.pool.injEq, ixN31, ne_eq, List.map_cons, List.map_nil, wPoolOpen, wPoolClose, wPop0, wPopTo, wListOwn, wRemove, wRaise0, wRaise1, wAugOwn, wEnumL, wTru, wSlA, gCatA, gLtT, gLeT, wFrz, wChain3, wAttr, wMkF, wEnumT, wRevT, wDict0, wDict1, numD3, Nat.reduceAdd, atI0, atI1, atI2, atI3, atI4, ixN51, ixN52, ixN53, List.length_map, wNever, scal, V.int.injEq, V.str.injEq, V.bl.injEq, wSq, wNext, wBreak, wCont, wDrop, wRet, wRetN, wIfS, wAsg, wPar, wLstOwn, wAppend, wSetOwn, wIxOwn, wPeek, wRetOwn, wRetFr, wFor, wB, wNot, wAnd, wOr, wAndV, wOrV, wNotV, wIf, wChain, wNil, wCons, wCB, wTup, wLst, wNoPart, wPart, wSlT, wSlL, wSeq, wRng1, wRng2, wZip, wName, wNilT, wConsT, wTupT, wYes, wNeg, wVar, wC, wOp, wcNil, wcCons, wcOwn, wCall, wCallOwn, slots, cellsOf, OwnArgs, putBack, g2I, g2IC, gLen, gAbs, gGcd, gInt1, gTupleOf, gListOf, gIx, gCatT, gCat, gEq, gNe, gIsN, gNotN, scD, seqD_t, seqD_l, seqD_f, isNonD, List.nodup_cons, List.mem_cons, List.not_mem_nil, or_false, not_false_eq_true, Nat.reduceEqDiff, L3.Keeps, ends, wipeD, List.replicate, List.cons_append, List.nil_append, List.append_nil, List.getElem?_cons_zero, List.getElem?_cons_succ, List.set_cons_zero, List.set_cons_succ, List.getD_cons_zero, List.getD_cons_succ, List.length_cons, List.length_nil, List.nodup_nil, Option.some.injEq, Cell.dat.injEq, Cell.own.injEq, Cont.lst.injEq, D.bl.injEq, D.int.injEq, D.str.injEq, D.tup.injEq, D.lst.injEq, Arg.d.injEq, List.cons.injEq, exists_and_left, exists_and_right, exists_eq_left', exists_eq_left, exists_eq_right, exists_eq_right', exists_eq, exists_eq', and_true, true_and, and_assoc, and_self, exists_const, reduceCtorEq]
      simpa using hq
    | true =>
      rw [ht] at hq
      simp only [gIsB, gNotB, D.adr.injEq, Cont.pool.injEq, ixN31, ne_eq, List.map_cons, List.map_nil, wPoolOpen, wPoolClose, wPop0, wPopTo, wListOwn, wRemove, wRaise0, wRaise1, wAugOwn, wEnumL, wTru, wSlA, gCatA, gLtT, gLeT, wFrz, wChain3, wAttr, wMkF, wEnumT, wRevT, wDict0, wDict1, numD3, Nat.reduceAdd, atI0, atI1, atI2, atI3, atI4, ixN51, ixN52, ixN53, List.length_map, wNever, scal, V.int.injEq, V.str.injEq, V.bl.injEq, wSq, wNext, wBreak, wCont, wDrop, wRet, wRetN, wIfS, wAsg, wPar, wLstOwn, wAppend, wSetOwn, wIxOwn, wPeek, wRetOwn, wRetFr, wFor, wB, wNot, wAnd, wOr, wAndV, wOrV, wNotV, wIf, wChain, wNil, wCons, wCB, wTup, wLst, wNoPart, wPart, wSlT, wSlL, wSeq, wRng1, wRng2, wZip, wName, wNilT, wConsT, wTupT, wYes, wNeg, wVar, wC, wOp, wcNil, wcCons, wcOwn, wCall, wCallOwn, slots, cellsOf, OwnArgs, putBack, g2I, g2IC, gLen, gAbs, gGcd, gInt1, gTupleOf, gListOf, gIx, gCatT, gCat, gEq, gNe, gIsN, gNotN, scD, seqD_t, seqD_l, seqD_f, isNonD, List.nodup_cons, List.mem_cons, List.not_mem_nil, or_false, not_false_eq_true, Nat.reduceEqDiff, L3.Keeps, ends, wipeD, List.replicate, List.cons_append, List.nil_append, List.append_nil, List.getElem?_cons_zero, List.getElem?_cons_succ, List.set_cons_zero, List.set_cons_succ, List.getD_cons_zero, List.getD_cons_succ, List.length_cons, List.length_nil, List.nodup_nil, Option.some.injEq, Cell.dat.injEq, Cell.own.injEq, Cont.lst.injEq, D.bl.injEq, D.int.injEq, D.str.injEq, D.tup.injEq, D.lst.injEq, Arg.d.injEq, List.cons.injEq, exists_and_left, exists_and_right, exists_eq_left', exists_eq_left, exists_eq_right, exists_eq_right', exists_eq, exists_eq', and_true, true_and, and_assoc, and_self, exists_const, reduceCtorEq]
      simp only [Bool.not_true, Bool.false_eq_true, false_implies, true_implies, true_and]
      refine c2_is_sort_tuple_ok (List.all_eq_true.mp ht) (by omega) ?_
      simp only [seqD_l, gIsB, gNotB, D.adr.injEq, Cont.pool.injEq, ixN31, ne_eq, List.map_cons, List.map_nil, wPoolOpen, wPoolClose, wPop0, wPopTo, wListOwn, wRemove, wRaise0, wRaise1, wAugOwn, wEnumL, wTru, wSlA, gCatA, gLtT, gLeT, wFrz, wChain3, wAttr, wMkF, wEnumT, wRevT, wDict0, wDict1, numD3, Nat.reduceAdd, atI0, atI1, atI2, atI3, atI4, ixN51, ixN52, ixN53, List.length_map, wNever, scal, V.int.injEq, V.str.injEq, V.bl.injEq, wSq, wNext, wBreak, wCont, wDrop, wRet, wRetN, wIfS, wAsg, wPar, wLstOwn, wAppend, wSetOwn, wIxOwn, wPeek, wRetOwn, wRetFr, wFor, wB, wNot, wAnd, wOr, wAndV, wOrV, wNotV, wIf, wChain, wNil, wCons, wCB, wTup, wLst, wNoPart, wPart, wSlT, wSlL, wSeq, wRng1, wRng2, wZip, wName, wNilT, wConsT, wTupT, wYes, wNeg, wVar, wC, wOp, wcNil, wcCons, wcOwn, wCall, wCallOwn, slots, cellsOf, OwnArgs, putBack, g2I, g2IC, gLen, gAbs, gGcd, gInt1, gTupleOf, gListOf, gIx, gCatT, gCat, gEq, gNe, gIsN, gNotN, scD, seqD_t, seqD_l, seqD_f, isNonD, List.nodup_cons, List.mem_cons, List.not_mem_nil, or_false, not_false_eq_true, Nat.reduceEqDiff, L3.Keeps, ends, wipeD, List.replicate, List.cons_append, List.nil_append, List.append_nil, List.getElem?_cons_zero, List.getElem?_cons_succ, List.set_cons_zero, List.set_cons_succ, List.getD_cons_zero, List.getD_cons_succ, List.length_cons, List.length_nil, List.nodup_nil, Option.some.injEq, Cell.dat.injEq, Cell.own.injEq, Cont.lst.injEq, D.bl.injEq, D.int.injEq, D.str.injEq, D.tup.injEq, D.lst.injEq, Arg.d.injEq, List.cons.injEq, exists_and_left, exists_and_right, exists_eq_left', exists_eq_left, exists_eq_right, exists_eq_right', exists_eq, exists_eq', and_true, true_and, and_assoc, and_self, exists_const, reduceCtorEq, List.length_map]
      exact hq
theorem ss_shape {d : D} (h : isSs d = true) : ∃ ds, d = .tup ds ∧ 1 ≤ ds.length ∧ ds.length ≤ 4 ∧ (∀ x ∈ ds, isSo x = true) ∧ (ds.filter isSea).length ≤ 1 := by
  cases d <;> simp [isSs] at h
  rename_i ds
  obtain ⟨⟨h1, h2⟩, h3⟩ := h
  simp [isTupOf] at h1
  exact ⟨ds, rfl, by omega, by omega, fun x hx => h2 x hx, by omega⟩
theorem ok_is_sort_tuple (T : Txt K mg) : FnOk P w K mg base (L2.CX P w) 5 T.f_is_sort_tuple T.fd_is_sort_tuple ["thing"] (spOf K 1 (fs_is_sort_tuple K)) := by
  refine def_ok T.F_is_sort_tuple sc_is_sort_tuple (wb := w_is_sort_tuple K) pure_is_sort_tuple ?_
  intro cdv A outer s H E hr tk
  exact ⟨_, (pss_cons (ps_if (PW.pt (pw_or (pt_not (pt_val (pe_callS (ok_is_tuple_of T) (hr.mono (by decide)) rfl T.g_is_tuple_of T.k_is_tuple_of T.b_is_tuple_of (fun σ => passAt tk σ) (pa_cons pe_int (pa_cons (pe_glob (v := .int 4) rfl T.c_MOST_SORTS ⟨_, rfl⟩) (pa_cons (pv 0) pa_nil)))))) (pw_or1 (pt_not (pt_val (pe_callB (cr_all (by rfl)) (by rfl) T.z_all (by decide +kernel) (pa_cons (pe_lc (own := [("sort", 1)]) (g := (gName 1)) (tt := tYes) (te := (tCallS (spOf K 1 (fs_is_sort K)) (L2.WE W0) (tCons (tVar 1) tNil))) rfl sc_is_sort_tuple.nd (pi_seq (pv 0)) (blkOk_by (N := ["thing", "sort", "width", "_"]) (sc := defScope s_is_sort_tuple) (by decide +kernel)) (fun _ _ _ _ _ => (pg_name (i := 1) sc_is_sort_tuple.nd rfl (by first | exact Or.inl rfl | exact Or.inr rfl))) (fun _ _ _ _ _ => pts_nil) (fun _ _ _ _ _ => (pe_callS (ok_is_sort T) (hr.mono (by decide)) rfl T.g_is_sort T.k_is_sort T.b_is_sort (fun σ => passAt L2.takes0 σ) (pa_cons (pv 1) pa_nil)))) pa_nil)))))))
        (pss_one (ps_ret pe_bl))
        pss_nil)
      (pss_one (ps_ret (pe_cmpR op_le (pe_callB call_len_seq (by rfl) T.z_len (by decide +kernel) (pa_cons (pe_lc (own := [("width", 2), ("_", 3)]) (g := (gTup K 2 (gCons (gName 2) (gCons (gName 3) gNil)))) (tt := (tTest (tOp rEq (tVar 2) (tC (.int 0))))) (te := (tC (.int 1))) rfl sc_is_sort_tuple.nd (pi_seq (pv 0)) (blkOk_by (N := ["thing", "sort", "width", "_"]) (sc := defScope s_is_sort_tuple) (by decide +kernel)) (fun _ _ _ _ _ => (pg_tup (by rfl) (pgs_cons (pg_name (i := 2) sc_is_sort_tuple.nd rfl (by first | exact Or.inl rfl | exact Or.inr rfl)) (pgs_cons (pg_name (i := 3) sc_is_sort_tuple.nd rfl (by first | exact Or.inl rfl | exact Or.inr rfl)) pgs_nil)))) (fun _ _ _ _ _ => (pts_one (pt_cmpR op_eq (pv 2) pe_int (nomark _)))) (fun _ _ _ _ _ => pe_int)) pa_nil)) pe_int (nomark _))))),
    (ds_seq (ds_if (dt_or (dt_not (dt_B (de_call (n := 3) (fs := fs_is_tuple_of K) (dac_cons de_int (dac_cons de_int (dac_cons (de_var 0) dac_nil)))))) (dt_not (dt_B (de_cb o_all (da_cons (de_lc (vs := [1]) (wI := (wSeq (wVar 0))) (wg := (wName 1)) (wt := wYes) (we := (wCall 1 (fs_is_sort K) (wcCons (wVar 1) wcNil))) (di_seq (de_var 0)) (dg_name 1) dt_yes (de_call (n := 1) (fs := fs_is_sort K) (dac_cons (de_var 1) dac_nil)) (by decide)) da_nil))))) (ds_ret de_bl) ds_nil)
      (ds_ret (de_op o_le (de_cb o_len (da_cons (de_lc (vs := [2, 3]) (wI := (wSeq (wVar 0))) (wg := (wTupT 2 (wConsT (wName 2) (wConsT (wName 3) wNilT)))) (wt := (wB (wOp gEq (wVar 2) (wC (.int 0))))) (we := (wC (.int 1))) (di_seq (de_var 0)) (dg_tup (n := 2) (dgs_cons (dg_name 2) (dgs_cons (dg_name 3) dgs_nil))) (dt_B (de_op o_eq (de_var 2) de_int)) de_int (by decide)) da_nil)) de_int)))⟩
abbrev s_is_join : Stmt := topS 34
theorem sc_is_join : FnScope ["sorts", "thing", "low", "high"] ["sorts", "thing"] (defScope s_is_join) := ⟨rfl, rfl, rfl, by decide +kernel, rfl, by decide +kernel, by decide +kernel⟩
def w_is_join (K : PySem.W.Frag) : SW := (wSq (wIfS (wNot (wB (wCall 3 (fs_is_tuple_of K) (wcCons (wC (.int 2)) (wcCons (wC (.int 2)) (wcCons (wVar 1) wcNil)))))) (wRet (wC (.bl false))) wNext)
  (wSq (wAsg (wVar 1) (wTupT 2 (wConsT (wName 2) (wConsT (wName 3) wNilT))))
  (wSq (wIfS (wOr (wNot (wB (wCall 3 (fs_is_between K) (wcCons (wC (.int 0)) (wcCons (wOp gSubI (wCB gLen (wCons (wVar 0) wNil)) (wC (.int 1))) (wcCons (wVar 3) wcNil)))))) (wNot (wB (wCall 3 (fs_is_between K) (wcCons (wC (.int 0)) (wcCons (wVar 3) (wcCons (wVar 2) wcNil))))))) (wRet (wC (.bl false))) wNext)
  (wRet (wOrV (wOp gLtI (wVar 2) (wVar 3)) (wOp gGtI (wOp gIx (wOp gIx (wVar 0) (wVar 2)) (wC (.int 0))) (wC (.int 0))))))))
/-- the width of a sort -/
def wAt (ss : List D) (a : Int) : Int := match ss[a.toNat]? with | some (.tup [.int w, _]) => w | _ => 0
def jo (ss : List D) (a b : Int) : Bool := decide (0 ≤ b) && decide (b ≤ (ss.length : Int) - 1) && (decide (0 ≤ a) && decide (a ≤ b)) && (decide (a < b) || decide (0 < wAt ss a))
def isJo (ss : List D) : D → Bool | .tup [.int a, .int b] => jo ss a b | _ => false
theorem jo_not_two {ss : List D} {d : D} (h : isTupOf 2 2 d = false) : isJo ss d = false := by
  cases d with
  | tup ds =>
    match ds with
    | [] => rfl
    | [x] => cases x <;> rfl
    | [x, y] => simp [isTupOf] at h
    | x :: y :: z :: r => cases x <;> cases y <;> rfl
  | _ => rfl
theorem wAt_get {ss : List D} {a : Int} (hs : ∀ d ∈ ss, isSo d = true) (h0 : 0 ≤ a) (h1 : a < ss.length) : ∃ c : Int, atI ss a = some (.tup [.int (wAt ss a), .int c]) ∧ 0 ≤ wAt ss a ∧ wAt ss a ≤ 12 := by
  obtain ⟨k, rfl⟩ := Int.eq_ofNat_of_zero_le h0
  have hk : k < ss.length := by omega
  have e1 : ss[k]? = some ss[k] := List.getElem?_eq_getElem hk
  obtain ⟨w, c, e2, w0, w1, _⟩ := so_shape (hs _ (List.getElem_mem hk))
  rw [e2] at e1
  have e3 : wAt ss (k : Int) = w := by
    unfold wAt
    rw [show ((k : Int)).toNat = k by omega, e1]
  rw [e3]
  exact ⟨c, atI_nat' e1, w0, w1⟩
def fs_is_join (K : PySem.W.Frag) : FS := fun cs q _ => ∃ (ss : List D) (d : D), cs = [.dat (.tup ss), .dat d] ∧ (∀ d ∈ ss, isSo d = true) ∧ OkD K d ∧ q (.bl (isJo ss d)) cs
theorem jo_r {ss : List D} {x y : D} (h : isIntD y = false) : isJo ss (.tup [x, y]) = false := by
  cases x <;> cases y <;> first | rfl | cases h
theorem jo_l {ss : List D} {x y : D} (h : isIntD x = false) : isJo ss (.tup [x, y]) = false := by
  cases x <;> first | rfl | cases h
theorem betw_nint {l h : Int} {x : D} (i : isIntD x = false) : isBetw l h x = false := by
  cases x <;> first | rfl | cases i
theorem pure_is_join : PureD 2 2 (fs_is_join K) (w_is_join K) := by
  rintro cs q e - ⟨ss, d, rfl, hs, hd, hq⟩
  cases h : isTupOf 2 2 d with
  | false =>
    rw [jo_not_two h] at hq
    simp only [w_is_join, fs_is_tuple_of, h, hd, gIsB, gNotB, D.adr.injEq, Cont.pool.injEq, ixN31, ne_eq, List.map_cons, List.map_nil, wPoolOpen, wPoolClose, wPop0, wPopTo, wListOwn, wRemove, wRaise0, wRaise1, wAugOwn, wEnumL, wTru, wSlA, gCatA, gLtT, gLeT, wFrz, wChain3, wAttr, wMkF, wEnumT, wRevT, wDict0, wDict1, numD3, Nat.reduceAdd, atI0, atI1, atI2, atI3, atI4, ixN51, ixN52, ixN53, List.length_map, wNever, scal, V.int.injEq, V.str.injEq, V.bl.injEq, wSq, wNext, wBreak, wCont, wDrop, wRet, wRetN, wIfS, wAsg, wPar, wLstOwn, wAppend, wSetOwn, wIxOwn, wPeek, wRetOwn, wRetFr, wFor, wB, wNot, wAnd, wOr, wAndV, wOrV, wNotV, wIf, wChain, wNil, wCons, wCB, wTup, wLst, wNoPart, wPart, wSlT, wSlL, wSeq, wRng1, wRng2, wZip, wName, wNilT, wConsT, wTupT, wYes, wNeg, wVar, wC, wOp, wcNil, wcCons, wcOwn, wCall, wCallOwn, slots, cellsOf, OwnArgs, putBack, g2I, g2IC, gLen, gAbs, gGcd, gInt1, gTupleOf, gListOf, gIx, gCatT, gCat, gEq, gNe, gIsN, gNotN, scD, seqD_t, seqD_l, seqD_f, isNonD, List.nodup_cons, List.mem_cons, List.not_mem_nil, or_false, not_false_eq_true, Nat.reduceEqDiff, L3.Keeps, ends, wipeD, List.replicate, List.cons_append, List.nil_append, List.append_nil, List.getElem?_cons_zero, List.getElem?_cons_succ, List.set_cons_zero, List.set_cons_succ, List.getD_cons_zero, List.getD_cons_succ, List.length_cons, List.length_nil, List.nodup_nil, Option.some.injEq, Cell.dat.injEq, Cell.own.injEq, Cont.lst.injEq, D.bl.injEq, D.int.injEq, D.str.injEq, D.tup.injEq, D.lst.injEq, Arg.d.injEq, List.cons.injEq, exists_and_left, exists_and_right, exists_eq_left', exists_eq_left, exists_eq_right, exists_eq_right', exists_eq, exists_eq', and_true, true_and, and_assoc, and_self, exists_const, reduceCtorEq]
    simpa using hq
  | true =>
    obtain ⟨x, y, rfl⟩ := tup_two h
    have hx := okTup hd (d := x) (by simp)
    have hy := okTup hd (d := y) (by simp)
    cases iy : isIntD y with
    | false =>
      rw [jo_r iy] at hq
      simp only [w_is_join, fs_is_tuple_of, fs_is_between, seqD_t, h, hd, hx, hy, betw_nint iy, gIsB, gNotB, D.adr.injEq, Cont.pool.injEq, ixN31, ne_eq, List.map_cons, List.map_nil, wPoolOpen, wPoolClose, wPop0, wPopTo, wListOwn, wRemove, wRaise0, wRaise1, wAugOwn, wEnumL, wTru, wSlA, gCatA, gLtT, gLeT, wFrz, wChain3, wAttr, wMkF, wEnumT, wRevT, wDict0, wDict1, numD3, Nat.reduceAdd, atI0, atI1, atI2, atI3, atI4, ixN51, ixN52, ixN53, List.length_map, wNever, scal, V.int.injEq, V.str.injEq, V.bl.injEq, wSq, wNext, wBreak, wCont, wDrop, wRet, wRetN, wIfS, wAsg, wPar, wLstOwn, wAppend, wSetOwn, wIxOwn, wPeek, wRetOwn, wRetFr, wFor, wB, wNot, wAnd, wOr, wAndV, wOrV, wNotV, wIf, wChain, wNil, wCons, wCB, wTup, wLst, wNoPart, wPart, wSlT, wSlL, wSeq, wRng1, wRng2, wZip, wName, wNilT, wConsT, wTupT, wYes, wNeg, wVar, wC, wOp, wcNil, wcCons, wcOwn, wCall, wCallOwn, slots, cellsOf, OwnArgs, putBack, g2I, g2IC, gLen, gAbs, gGcd, gInt1, gTupleOf, gListOf, gIx, gCatT, gCat, gEq, gNe, gIsN, gNotN, scD, seqD_t, seqD_l, seqD_f, isNonD, List.nodup_cons, List.mem_cons, List.not_mem_nil, or_false, not_false_eq_true, Nat.reduceEqDiff, L3.Keeps, ends, wipeD, List.replicate, List.cons_append, List.nil_append, List.append_nil, List.getElem?_cons_zero, List.getElem?_cons_succ, List.set_cons_zero, List.set_cons_succ, List.getD_cons_zero, List.getD_cons_succ, List.length_cons, List.length_nil, List.nodup_nil, Option.some.injEq, Cell.dat.injEq, Cell.own.injEq, Cont.lst.injEq, D.bl.injEq, D.int.injEq, D.str.injEq, D.tup.injEq, D.lst.injEq, Arg.d.injEq, List.cons.injEq, exists_and_left, exists_and_right, exists_eq_left', exists_eq_left, exists_eq_right, exists_eq_right', exists_eq, exists_eq', and_true, true_and, and_assoc, and_self, exists_const, reduceCtorEq]
      simp
      exact hq
    | true =>
      obtain ⟨b, rfl⟩ := int_of iy
      cases ix : isIntD x with
      | false =>
        rw [jo_l ix] at hq
        simp only [w_is_join, fs_is_tuple_of, fs_is_between, seqD_t, h, hd, hx, hy, betw_nint ix, gIsB, gNotB, D.adr.injEq, Cont.pool.injEq, ixN31, ne_eq, List.map_cons, List.map_nil, wPoolOpen, wPoolClose, wPop0, wPopTo, wListOwn, wRemove, wRaise0, wRaise1, wAugOwn, wEnumL, wTru, wSlA, gCatA, gLtT, gLeT, wFrz, wChain3, wAttr, wMkF, wEnumT, wRevT, wDict0, wDict1, numD3, Nat.reduceAdd, atI0, atI1, atI2, atI3, atI4, ixN51, ixN52, ixN53, List.length_map, wNever, scal, V.int.injEq, V.str.injEq, V.bl.injEq, wSq, wNext, wBreak, wCont, wDrop, wRet, wRetN, wIfS, wAsg, wPar, wLstOwn, wAppend, wSetOwn, wIxOwn, wPeek, wRetOwn, wRetFr, wFor, wB, wNot, wAnd, wOr, wAndV, wOrV, wNotV, wIf, wChain, wNil, wCons, wCB, wTup, wLst, wNoPart, wPart, wSlT, wSlL, wSeq, wRng1, wRng2, wZip, wName, wNilT, wConsT, wTupT, wYes, wNeg, wVar, wC, wOp, wcNil, wcCons, wcOwn, wCall, wCallOwn, slots, cellsOf, OwnArgs, putBack, g2I, g2IC, gLen, gAbs, gGcd, gInt1, gTupleOf, gListOf, gIx, gCatT, gCat, gEq, gNe, gIsN, gNotN, scD, seqD_t, seqD_l, seqD_f, isNonD, List.nodup_cons, List.mem_cons, List.not_mem_nil, or_false, not_false_eq_true, Nat.reduceEqDiff, L3.Keeps, ends, wipeD, List.replicate, List.cons_append, List.nil_append, List.append_nil, List.getElem?_cons_zero, List.getElem?_cons_succ, List.set_cons_zero, List.set_cons_succ, List.getD_cons_zero, List.getD_cons_succ, List.length_cons, List.length_nil, List.nodup_nil, Option.some.injEq, Cell.dat.injEq, Cell.own.injEq, Cont.lst.injEq, D.bl.injEq, D.int.injEq, D.str.injEq, D.tup.injEq, D.lst.injEq, Arg.d.injEq, List.cons.injEq, exists_and_left, exists_and_right, exists_eq_left', exists_eq_left, exists_eq_right, exists_eq_right', exists_eq, exists_eq', and_true, true_and, and_assoc, and_self, exists_const, reduceCtorEq]
        simp
        exact ⟨fun _ => hq, fun _ => hq⟩
      | true =>
        obtain ⟨a, rfl⟩ := int_of ix
        have e1 : isJo ss (.tup [.int a, .int b]) = (isBetw 0 ((ss.length : Int) - 1) (.int b) && isBetw 0 b (.int a) && (decide (a < b) || decide (0 < wAt ss a))) := rfl
        rw [e1] at hq
        cases g1 : isBetw 0 ((ss.length : Int) - 1) (.int b) with
        | false =>
          rw [g1] at hq
          simp only [w_is_join, fs_is_tuple_of, fs_is_between, seqD_t, h, hd, hx, hy, g1, gIsB, gNotB, D.adr.injEq, Cont.pool.injEq, ixN31, ne_eq, List.map_cons, List.map_nil, wPoolOpen, wPoolClose, wPop0, wPopTo, wListOwn, wRemove, wRaise0, wRaise1, wAugOwn, wEnumL, wTru, wSlA, gCatA, gLtT, gLeT, wFrz, wChain3, wAttr, wMkF, wEnumT, wRevT, wDict0, wDict1, numD3, Nat.reduceAdd, atI0, atI1, atI2, atI3, atI4, ixN51, ixN52, ixN53, List.length_map, wNever, scal, V.int.injEq, V.str.injEq, V.bl.injEq, wSq, wNext, wBreak, wCont, wDrop, wRet, wRetN, wIfS, wAsg, wPar, wLstOwn, wAppend, wSetOwn, wIxOwn, wPeek, wRetOwn, wRetFr, wFor, wB, wNot, wAnd, wOr, wAndV, wOrV, wNotV, wIf, wChain, wNil, wCons, wCB, wTup, wLst, wNoPart, wPart, wSlT, wSlL, wSeq, wRng1, wRng2, wZip, wName, wNilT, wConsT, wTupT, wYes, wNeg, wVar, wC, wOp, wcNil, wcCons, wcOwn, wCall, wCallOwn, slots, cellsOf, OwnArgs, putBack, g2I, g2IC, gLen, gAbs, gGcd, gInt1, gTupleOf, gListOf, gIx, gCatT, gCat, gEq, gNe, gIsN, gNotN, scD, seqD_t, seqD_l, seqD_f, isNonD, List.nodup_cons, List.mem_cons, List.not_mem_nil, or_false, not_false_eq_true, Nat.reduceEqDiff, L3.Keeps, ends, wipeD, List.replicate, List.cons_append, List.nil_append, List.append_nil, List.getElem?_cons_zero, List.getElem?_cons_succ, List.set_cons_zero, List.set_cons_succ, List.getD_cons_zero, List.getD_cons_succ, List.length_cons, List.length_nil, List.nodup_nil, Option.some.injEq, Cell.dat.injEq, Cell.own.injEq, Cont.lst.injEq, D.bl.injEq, D.int.injEq, D.str.injEq, D.tup.injEq, D.lst.injEq, Arg.d.injEq, List.cons.injEq, exists_and_left, exists_and_right, exists_eq_left', exists_eq_left, exists_eq_right, exists_eq_right', exists_eq, exists_eq', and_true, true_and, and_assoc, and_self, exists_const, reduceCtorEq]
          simp at hq ⊢
          exact hq
        | true =>
          cases g2 : isBetw 0 b (.int a) with
          | false =>
            rw [g1, g2] at hq
            simp only [w_is_join, fs_is_tuple_of, fs_is_between, seqD_t, h, hd, hx, hy, g1, g2, gIsB, gNotB, D.adr.injEq, Cont.pool.injEq, ixN31, ne_eq, List.map_cons, List.map_nil, wPoolOpen, wPoolClose, wPop0, wPopTo, wListOwn, wRemove, wRaise0, wRaise1, wAugOwn, wEnumL, wTru, wSlA, gCatA, gLtT, gLeT, wFrz, wChain3, wAttr, wMkF, wEnumT, wRevT, wDict0, wDict1, numD3, Nat.reduceAdd, atI0, atI1, atI2, atI3, atI4, ixN51, ixN52, ixN53, List.length_map, wNever, scal, V.int.injEq, V.str.injEq, V.bl.injEq, wSq, wNext, wBreak, wCont, wDrop, wRet, wRetN, wIfS, wAsg, wPar, wLstOwn, wAppend, wSetOwn, wIxOwn, wPeek, wRetOwn, wRetFr, wFor, wB, wNot, wAnd, wOr, wAndV, wOrV, wNotV, wIf, wChain, wNil, wCons, wCB, wTup, wLst, wNoPart, wPart, wSlT, wSlL, wSeq, wRng1, wRng2, wZip, wName, wNilT, wConsT, wTupT, wYes, wNeg, wVar, wC, wOp, wcNil, wcCons, wcOwn, wCall, wCallOwn, slots, cellsOf, OwnArgs, putBack, g2I, g2IC, gLen, gAbs, gGcd, gInt1, gTupleOf, gListOf, gIx, gCatT, gCat, gEq, gNe, gIsN, gNotN, scD, seqD_t, seqD_l, seqD_f, isNonD, List.nodup_cons, List.mem_cons, List.not_mem_nil, or_false, not_false_eq_true, Nat.reduceEqDiff, L3.Keeps, ends, wipeD, List.replicate, List.cons_append, List.nil_append, List.append_nil, List.getElem?_cons_zero, List.getElem?_cons_succ, List.set_cons_zero, List.set_cons_succ, List.getD_cons_zero, List.getD_cons_succ, List.length_cons, List.length_nil, List.nodup_nil, Option.some.injEq, Cell.dat.injEq, Cell.own.injEq, Cont.lst.injEq, D.bl.injEq, D.int.injEq, D.str.injEq, D.tup.injEq, D.lst.injEq, Arg.d.injEq, List.cons.injEq, exists_and_left, exists_and_right, exists_eq_left', exists_eq_left, exists_eq_right, exists_eq_right', exists_eq, exists_eq', and_true, true_and, and_assoc, and_self, exists_const, reduceCtorEq]
            simp at hq ⊢
            exact hq
          | true =>
            obtain ⟨_, eb, b0, b1⟩ := betw_int g1
            cases eb
            obtain ⟨_, ea, a0, a1⟩ := betw_int g2
            cases ea
            obtain ⟨c, at1, _⟩ := wAt_get hs a0 (by omega)
            rw [g1, g2] at hq
            simp only [w_is_join, fs_is_tuple_of, fs_is_between, seqD_t, h, hd, hx, hy, g1, g2, at1, gIsB, gNotB, D.adr.injEq, Cont.pool.injEq, ixN31, ne_eq, List.map_cons, List.map_nil, wPoolOpen, wPoolClose, wPop0, wPopTo, wListOwn, wRemove, wRaise0, wRaise1, wAugOwn, wEnumL, wTru, wSlA, gCatA, gLtT, gLeT, wFrz, wChain3, wAttr, wMkF, wEnumT, wRevT, wDict0, wDict1, numD3, Nat.reduceAdd, atI0, atI1, atI2, atI3, atI4, ixN51, ixN52, ixN53, List.length_map, wNever, scal, V.int.injEq, V.str.injEq, V.bl.injEq, wSq, wNext, wBreak, wCont, wDrop, wRet, wRetN, wIfS, wAsg, wPar, wLstOwn, wAppend, wSetOwn, wIxOwn, wPeek, wRetOwn, wRetFr, wFor, wB, wNot, wAnd, wOr, wAndV, wOrV, wNotV, wIf, wChain, wNil, wCons, wCB, wTup, wLst, wNoPart, wPart, wSlT, wSlL, wSeq, wRng1, wRng2, wZip, wName, wNilT, wConsT, wTupT, wYes, wNeg, wVar, wC, wOp, wcNil, wcCons, wcOwn, wCall, wCallOwn, slots, cellsOf, OwnArgs, putBack, g2I, g2IC, gLen, gAbs, gGcd, gInt1, gTupleOf, gListOf, gIx, gCatT, gCat, gEq, gNe, gIsN, gNotN, scD, seqD_t, seqD_l, seqD_f, isNonD, List.nodup_cons, List.mem_cons, List.not_mem_nil, or_false, not_false_eq_true, Nat.reduceEqDiff, L3.Keeps, ends, wipeD, List.replicate, List.cons_append, List.nil_append, List.append_nil, List.getElem?_cons_zero, List.getElem?_cons_succ, List.set_cons_zero, List.set_cons_succ, List.getD_cons_zero, List.getD_cons_succ, List.length_cons, List.length_nil, List.nodup_nil, Option.some.injEq, Cell.dat.injEq, Cell.own.injEq, Cont.lst.injEq, D.bl.injEq, D.int.injEq, D.str.injEq, D.tup.injEq, D.lst.injEq, Arg.d.injEq, List.cons.injEq, exists_and_left, exists_and_right, exists_eq_left', exists_eq_left, exists_eq_right, exists_eq_right', exists_eq, exists_eq', and_true, true_and, and_assoc, and_self, exists_const, reduceCtorEq]
            simp only [Bool.not_true, Bool.false_eq_true, false_implies, true_implies, true_and]
            simp only [Bool.true_and] at hq
            cases l1 : decide (a < b) with
            | true =>
              rw [l1] at hq
              simp at hq ⊢
              exact hq
            | false =>
              rw [l1] at hq
              simp at hq ⊢
              exact hq
theorem ok_is_join (T : Txt K mg) : FnOk P w K mg base (L2.CX P w) 3 T.f_is_join T.fd_is_join ["sorts", "thing"] (spOf K 2 (fs_is_join K)) := by
  refine def_ok T.F_is_join sc_is_join (wb := w_is_join K) pure_is_join ?_
  intro cdv A outer s H E hr tk
  exact ⟨_, (pss_cons (ps_if (pt_not (pt_val (pe_callS (ok_is_tuple_of T) (hr.mono (by decide)) rfl T.g_is_tuple_of T.k_is_tuple_of T.b_is_tuple_of (fun σ => passAt tk σ) (pa_cons pe_int (pa_cons pe_int (pa_cons (pv 1) pa_nil))))))
        (pss_one (ps_ret pe_bl))
        pss_nil)
      (pss_cons (ps_asg (pv 1) (pg_tup (by rfl) (pgs_cons (pg_name (i := 2) sc_is_join.nd rfl (by first | exact Or.inl rfl | exact Or.inr rfl)) (pgs_cons (pg_name (i := 3) sc_is_join.nd rfl (by first | exact Or.inl rfl | exact Or.inr rfl)) pgs_nil))))
      (pss_cons (ps_if (PW.pt (pw_or (pt_not (pt_val (pe_callS (ok_is_between T) (hr.mono (by decide)) rfl T.g_is_between T.k_is_between T.b_is_between (fun σ => passAt tk σ) (pa_cons pe_int (pa_cons (pe_op op_sub (pe_callB call_len_seq (by rfl) T.z_len (by decide +kernel) (pa_cons (pv 0) pa_nil)) pe_int) (pa_cons (pv 3) pa_nil)))))) (pw_or1 (pt_not (pt_val (pe_callS (ok_is_between T) (hr.mono (by decide)) rfl T.g_is_between T.k_is_between T.b_is_between (fun σ => passAt tk σ) (pa_cons pe_int (pa_cons (pv 3) (pa_cons (pv 2) pa_nil)))))))))
        (pss_one (ps_ret pe_bl))
        pss_nil)
      (pss_one (ps_ret (pe_or (pe_cmpR op_lt (pv 2) (pv 3) (nomark _)) (pe_one (pe_cmpR op_gt (pe_ix ix_seq (pe_ix ix_seq (pv 0) (pv 2) (fun _ _ => rfl)) pe_int (fun _ _ => rfl)) pe_int (nomark _))))))))),
    (ds_seq (ds_if (dt_not (dt_B (de_call (n := 3) (fs := fs_is_tuple_of K) (dac_cons de_int (dac_cons de_int (dac_cons (de_var 1) dac_nil)))))) (ds_ret de_bl) ds_nil)
      (ds_seq (ds_asg (de_var 1) (dg_tup (n := 2) (dgs_cons (dg_name 2) (dgs_cons (dg_name 3) dgs_nil))))
      (ds_seq (ds_if (dt_or (dt_not (dt_B (de_call (n := 3) (fs := fs_is_between K) (dac_cons de_int (dac_cons (de_op o_sub (de_cb o_len (da_cons (de_var 0) da_nil)) de_int) (dac_cons (de_var 3) dac_nil)))))) (dt_not (dt_B (de_call (n := 3) (fs := fs_is_between K) (dac_cons de_int (dac_cons (de_var 3) (dac_cons (de_var 2) dac_nil))))))) (ds_ret de_bl) ds_nil)
      (ds_ret (de_or (de_op o_lt (de_var 2) (de_var 3)) (de_op o_gt (de_op o_ix (de_op o_ix (de_var 0) (de_var 2)) de_int) de_int))))))⟩
abbrev s_is_kind : Stmt := topS 35
theorem sc_is_kind : FnScope ["sorts", "thing", "thresholds", "joins", "join"] ["sorts", "thing"] (defScope s_is_kind) := ⟨rfl, rfl, rfl, by decide +kernel, rfl, by decide +kernel, by decide +kernel⟩
def c1_is_kind (K : PySem.W.Frag) : EW := wLc (wSeq (wVar 3)) (wName 4) wYes (wCall 2 (fs_is_join K) (wcCons (wVar 0) (wcCons (wVar 4) wcNil))) [4]
def w_is_kind (K : PySem.W.Frag) : SW := (wSq (wIfS (wNot (wB (wCall 3 (fs_is_tuple_of K) (wcCons (wC (.int 2)) (wcCons (wC (.int 2)) (wcCons (wVar 1) wcNil)))))) (wRet (wC (.bl false))) wNext)
  (wSq (wAsg (wVar 1) (wTupT 2 (wConsT (wName 2) (wConsT (wName 3) wNilT))))
  (wSq (wIfS (wOr (wNot (wB (wCall 1 (fs_is_list K) (wcCons (wVar 2) wcNil)))) (wOr (wNot (wB (wCB (gIsi K) (wCons (wVar 3) (wCons (wC (.ty "tuple")) wNil))))) (wNot (wTru (wVar 3))))) (wRet (wC (.bl false))) wNext)
  (wRet (wAndV (wCB gAll (wCons (c1_is_kind K) wNil)) (wCall 1 (fs_ascends K) (wcCons (wVar 3) wcNil)))))))
def isKi (ss : List D) : D → Bool | .tup [l, .tup js] => isLi l && !js.isEmpty && (js.all (isJo ss) && ascJ js) | _ => false
theorem ki_not_two {ss : List D} {d : D} (h : isTupOf 2 2 d = false) : isKi ss d = false := by
  cases d with
  | tup ds =>
    match ds with
    | [] => rfl
    | [x] => rfl
    | [x, y] => simp [isTupOf] at h
    | x :: y :: z :: r => cases y <;> rfl
  | _ => rfl
theorem jo_pair {ss : List D} {d : D} (h : isJo ss d = true) : ∃ a b : Int, d = .tup [.int a, .int b] ∧ jo ss a b = true := by
  cases h2 : isTupOf 2 2 d with
  | false => rw [jo_not_two h2] at h; cases h
  | true =>
    obtain ⟨x, y, rfl⟩ := tup_two h2
    cases iy : isIntD y with
    | false => rw [jo_r iy] at h; cases h
    | true =>
      cases ix : isIntD x with
      | false => rw [jo_l ix] at h; cases h
      | true =>
        obtain ⟨a, rfl⟩ := int_of ix
        obtain ⟨b, rfl⟩ := int_of iy
        exact ⟨a, b, rfl, h⟩
/-- a tuple of joins is not long -/
def JsShort : D → Prop | .tup [_, .tup js] => js.length ≤ 900 | _ => True
def fs_is_kind (K : PySem.W.Frag) : FS := fun cs q _ => ∃ (ss : List D) (d : D), cs = [.dat (.tup ss), .dat d] ∧ (∀ d ∈ ss, isSo d = true) ∧ OkD K d ∧ JsShort d ∧ q (.bl (isKi ss d)) cs
theorem c1_is_kind_ok {ss js : List D} {c1 c2 c4 : Cell} {q : D → List Cell → Prop} {e : Xn → List Cell → Prop} (hs : ∀ d ∈ ss, isSo d = true) (hd : OkD K (.tup js)) (hn : js.length ≤ 1000)
    (hq : q (.lst (js.map fun d => .bl (isJo ss d))) [.dat (.tup ss), c1, c2, .dat (.tup js), .any]) : c1_is_kind K [.dat (.tup ss), c1, c2, .dat (.tup js), c4] q e := by
  unfold c1_is_kind wLc
  refine ⟨_, rfl, js, rfl, lc_fm (fun d => .bl (isJo ss d)) (fun _ => true) hn (fun d hm k1 k2 h1 _ => ?_) (by rw [filter_true]; exact hq)⟩
  simp only [fs_is_join, okTup hd hm, gIsB, gNotB, D.adr.injEq, Cont.pool.injEq, ixN31, ne_eq, List.map_cons, List.map_nil, wPoolOpen, wPoolClose, wPop0, wPopTo, wListOwn, wRemove, wRaise0, wRaise1, wAugOwn, wEnumL, wTru, wSlA, gCatA, gLtT, gLeT, wFrz, wChain3, wAttr, wMkF, wEnumT, wRevT, wDict0, wDict1, numD3, Nat.reduceAdd, atI0, atI1, atI2, atI3, atI4, ixN51, ixN52, ixN53, List.length_map, wNever, scal, V.int.injEq, V.str.injEq, V.bl.injEq, wSq, wNext, wBreak, wCont, wDrop, wRet, wRetN, wIfS, wAsg, wPar, wLstOwn, wAppend, wSetOwn, wIxOwn, wPeek, wRetOwn, wRetFr, wFor, wB, wNot, wAnd, wOr, wAndV, wOrV, wNotV, wIf, wChain, wNil, wCons, wCB, wTup, wLst, wNoPart, wPart, wSlT, wSlL, wSeq, wRng1, wRng2, wZip, wName, wNilT, wConsT, wTupT, wYes, wNeg, wVar, wC, wOp, wcNil, wcCons, wcOwn, wCall, wCallOwn, slots, cellsOf, OwnArgs, putBack, g2I, g2IC, gLen, gAbs, gGcd, gInt1, gTupleOf, gListOf, gIx, gCatT, gCat, gEq, gNe, gIsN, gNotN, scD, seqD_t, seqD_l, seqD_f, isNonD, List.nodup_cons, List.mem_cons, List.not_mem_nil, or_false, not_false_eq_true, Nat.reduceEqDiff, L3.Keeps, ends, wipeD, List.replicate, List.cons_append, List.nil_append, List.append_nil, List.getElem?_cons_zero, List.getElem?_cons_succ, List.set_cons_zero, List.set_cons_succ, List.getD_cons_zero, List.getD_cons_succ, List.length_cons, List.length_nil, List.nodup_nil, Option.some.injEq, Cell.dat.injEq, Cell.own.injEq, Cont.lst.injEq, D.bl.injEq, D.int.injEq, D.str.injEq, D.tup.injEq, D.lst.injEq, Arg.d.injEq, List.cons.injEq, exists_and_left, exists_and_right, exists_eq_left', exists_eq_left, exists_eq_right, exists_eq_right', exists_eq, exists_eq', and_true, true_and, and_assoc, and_self, exists_const, reduceCtorEq]
  simp only [true_implies]
  exact ⟨⟨hs, h1 rfl _ rfl⟩, fun z => nomatch z⟩
theorem pure_is_kind : PureD 2 3 (fs_is_kind K) (w_is_kind K) := by
  rintro cs q e - ⟨ss, d, rfl, hs, hd, hj, hq⟩
  cases h : isTupOf 2 2 d with
  | false =>
    rw [ki_not_two h] at hq
    simp only [w_is_kind, fs_is_tuple_of, h, hd, gIsB, gNotB, D.adr.injEq, Cont.pool.injEq, ixN31, ne_eq, List.map_cons, List.map_nil, wPoolOpen, wPoolClose, wPop0, wPopTo, wListOwn, wRemove, wRaise0, wRaise1, wAugOwn, wEnumL, wTru, wSlA, gCatA, gLtT, gLeT, wFrz, wChain3, wAttr, wMkF, wEnumT, wRevT, wDict0, wDict1, numD3, Nat.reduceAdd, atI0, atI1, atI2, atI3, atI4, ixN51, ixN52, ixN53, List.length_map, wNever, scal, V.int.injEq, V.str.injEq, V.bl.injEq, wSq, wNext, wBreak, wCont, wDrop, wRet, wRetN, wIfS, wAsg, wPar, wLstOwn, wAppend, wSetOwn, wIxOwn, wPeek, wRetOwn, wRetFr, wFor, wB, wNot, wAnd, wOr, wAndV, wOrV, wNotV, wIf, wChain, wNil, wCons, wCB, wTup, wLst, wNoPart, wPart, wSlT, wSlL, wSeq, wRng1, wRng2, wZip, wName, wNilT, wConsT, wTupT, wYes, wNeg, wVar, wC, wOp, wcNil, wcCons, wcOwn, wCall, wCallOwn, slots, cellsOf, OwnArgs, putBack, g2I, g2IC, gLen, gAbs, gGcd, gInt1, gTupleOf, gListOf, gIx, gCatT, gCat, gEq, gNe, gIsN, gNotN, scD, seqD_t, seqD_l, seqD_f, isNonD, List.nodup_cons, List.mem_cons, List.not_mem_nil, or_false, not_false_eq_true, Nat.reduceEqDiff, L3.Keeps, ends, wipeD, List.replicate, List.cons_append, List.nil_append, List.append_nil, List.getElem?_cons_zero, List.getElem?_cons_succ, List.set_cons_zero, List.set_cons_succ, List.getD_cons_zero, List.getD_cons_succ, List.length_cons, List.length_nil, List.nodup_nil, Option.some.injEq, Cell.dat.injEq, Cell.own.injEq, Cont.lst.injEq, D.bl.injEq, D.int.injEq, D.str.injEq, D.tup.injEq, D.lst.injEq, Arg.d.injEq, List.cons.injEq, exists_and_left, exists_and_right, exists_eq_left', exists_eq_left, exists_eq_right, exists_eq_right', exists_eq, exists_eq', and_true, true_and, and_assoc, and_self, exists_const, reduceCtorEq]
    simpa using hq
  | true =>
    obtain ⟨l, js, rfl⟩ := tup_two h
    have hl := okTup hd (d := l) (by simp)
    have hjs := okTup hd (d := js) (by simp)
    cases g1 : isLi l with
    | false =>
      have e1 : isKi ss (.tup [l, js]) = false := by cases js <;> simp [isKi, g1]
      rw [e1] at hq
      simp only [w_is_kind, fs_is_tuple_of, fs_is_list, seqD_t, h, hd, hl, hjs, g1, gIsB, gNotB, D.adr.injEq, Cont.pool.injEq, ixN31, ne_eq, List.map_cons, List.map_nil, wPoolOpen, wPoolClose, wPop0, wPopTo, wListOwn, wRemove, wRaise0, wRaise1, wAugOwn, wEnumL, wTru, wSlA, gCatA, gLtT, gLeT, wFrz, wChain3, wAttr, wMkF, wEnumT, wRevT, wDict0, wDict1, numD3, Nat.reduceAdd, atI0, atI1, atI2, atI3, atI4, ixN51, ixN52, ixN53, List.length_map, wNever, scal, V.int.injEq, V.str.injEq, V.bl.injEq, wSq, wNext, wBreak, wCont, wDrop, wRet, wRetN, wIfS, wAsg, wPar, wLstOwn, wAppend, wSetOwn, wIxOwn, wPeek, wRetOwn, wRetFr, wFor, wB, wNot, wAnd, wOr, wAndV, wOrV, wNotV, wIf, wChain, wNil, wCons, wCB, wTup, wLst, wNoPart, wPart, wSlT, wSlL, wSeq, wRng1, wRng2, wZip, wName, wNilT, wConsT, wTupT, wYes, wNeg, wVar, wC, wOp, wcNil, wcCons, wcOwn, wCall, wCallOwn, slots, cellsOf, OwnArgs, putBack, g2I, g2IC, gLen, gAbs, gGcd, gInt1, gTupleOf, gListOf, gIx, gCatT, gCat, gEq, gNe, gIsN, gNotN, scD, seqD_t, seqD_l, seqD_f, isNonD, List.nodup_cons, List.mem_cons, List.not_mem_nil, or_false, not_false_eq_true, Nat.reduceEqDiff, L3.Keeps, ends, wipeD, List.replicate, List.cons_append, List.nil_append, List.append_nil, List.getElem?_cons_zero, List.getElem?_cons_succ, List.set_cons_zero, List.set_cons_succ, List.getD_cons_zero, List.getD_cons_succ, List.length_cons, List.length_nil, List.nodup_nil, Option.some.injEq, Cell.dat.injEq, Cell.own.injEq, Cont.lst.injEq, D.bl.injEq, D.int.injEq, D.str.injEq, D.tup.injEq, D.lst.injEq, Arg.d.injEq, List.cons.injEq, exists_and_left, exists_and_right, exists_eq_left', exists_eq_left, exists_eq_right, exists_eq_right', exists_eq, exists_eq', and_true, true_and, and_assoc, and_self, exists_const, reduceCtorEq]
      simp
      exact hq
    | true =>
      simp only [w_is_kind, fs_is_tuple_of, fs_is_list, seqD_t, gIsi_iff hjs (show "tuple" ∈ kinds by simp), h, hd, hl, hjs, g1, gIsB, gNotB, D.adr.injEq, Cont.pool.injEq, ixN31, ne_eq, List.map_cons, List.map_nil, wPoolOpen, wPoolClose, wPop0, wPopTo, wListOwn, wRemove, wRaise0, wRaise1, wAugOwn, wEnumL, wTru, wSlA, gCatA, gLtT, gLeT, wFrz, wChain3, wAttr, wMkF, wEnumT, wRevT, wDict0, wDict1, numD3, Nat.reduceAdd, atI0, atI1, atI2, atI3, atI4, ixN51, ixN52, ixN53, List.length_map, wNever, scal, V.int.injEq, V.str.injEq, V.bl.injEq, wSq, wNext, wBreak, wCont, wDrop, wRet, wRetN, wIfS, wAsg, wPar, wLstOwn, wAppend, wSetOwn, wIxOwn, wPeek, wRetOwn, wRetFr, wFor, wB, wNot, wAnd, wOr, wAndV, wOrV, wNotV, wIf, wChain, wNil, wCons, wCB, wTup, wLst, wNoPart, wPart, wSlT, wSlL, wSeq, wRng1, wRng2, wZip, wName, wNilT, wConsT, wTupT, wYes, wNeg, wVar, wC, wOp, wcNil, wcCons, wcOwn, wCall, wCallOwn, slots, cellsOf, OwnArgs, putBack, g2I, g2IC, gLen, gAbs, gGcd, gInt1, gTupleOf, gListOf, gIx, gCatT, gCat, gEq, gNe, gIsN, gNotN, scD, seqD_t, seqD_l, seqD_f, isNonD, List.nodup_cons, List.mem_cons, List.not_mem_nil, or_false, not_false_eq_true, Nat.reduceEqDiff, L3.Keeps, ends, wipeD, List.replicate, List.cons_append, List.nil_append, List.append_nil, List.getElem?_cons_zero, List.getElem?_cons_succ, List.set_cons_zero, List.set_cons_succ, List.getD_cons_zero, List.getD_cons_succ, List.length_cons, List.length_nil, List.nodup_nil, Option.some.injEq, Cell.dat.injEq, Cell.own.injEq, Cont.lst.injEq, D.bl.injEq, D.int.injEq, D.str.injEq, D.tup.injEq, D.lst.injEq, Arg.d.injEq, List.cons.injEq, exists_and_left, exists_and_right, exists_eq_left', exists_eq_left, exists_eq_right, exists_eq_right', exists_eq, exists_eq', and_true, true_and, and_assoc, and_self, exists_const, reduceCtorEq]
      cases js with
      | tup js =>
        have hn : js.length ≤ 900 := hj
        cases g2 : js.isEmpty with
        | true =>
          have e1 : isKi ss (.tup [l, .tup js]) = false := by simp [isKi, g2]
          rw [e1] at hq
          simp only [isiD, truD, g2, gIsB, gNotB, D.adr.injEq, Cont.pool.injEq, ixN31, ne_eq, List.map_cons, List.map_nil, wPoolOpen, wPoolClose, wPop0, wPopTo, wListOwn, wRemove, wRaise0, wRaise1, wAugOwn, wEnumL, wTru, wSlA, gCatA, gLtT, gLeT, wFrz, wChain3, wAttr, wMkF, wEnumT, wRevT, wDict0, wDict1, numD3, Nat.reduceAdd, atI0, atI1, atI2, atI3, atI4, ixN51, ixN52, ixN53, List.length_map, wNever, scal, V.int.injEq, V.str.injEq, V.bl.injEq, wSq, wNext, wBreak, wCont, wDrop, wRet, wRetN, wIfS, wAsg, wPar, wLstOwn, wAppend, wSetOwn, wIxOwn, wPeek, wRetOwn, wRetFr, wFor, wB, wNot, wAnd, wOr, wAndV, wOrV, wNotV, wIf, wChain, wNil, wCons, wCB, wTup, wLst, wNoPart, wPart, wSlT, wSlL, wSeq, wRng1, wRng2, wZip, wName, wNilT, wConsT, wTupT, wYes, wNeg, wVar, wC, wOp, wcNil, wcCons, wcOwn, wCall, wCallOwn, slots, cellsOf, OwnArgs, putBack, g2I, g2IC, gLen, gAbs, gGcd, gInt1, gTupleOf, gListOf, gIx, gCatT, gCat, gEq, gNe, gIsN, gNotN, scD, seqD_t, seqD_l, seqD_f, isNonD, List.nodup_cons, List.mem_cons, List.not_mem_nil, or_false, not_false_eq_true, Nat.reduceEqDiff, L3.Keeps, ends, wipeD, List.replicate, List.cons_append, List.nil_append, List.append_nil, List.getElem?_cons_zero, List.getElem?_cons_succ, List.set_cons_zero, List.set_cons_succ, List.getD_cons_zero, List.getD_cons_succ, List.length_cons, List.length_nil, List.nodup_nil, Option.some.injEq, Cell.dat.injEq, Cell.own.injEq, Cont.lst.injEq, D.bl.injEq, D.int.injEq, D.str.injEq, D.tup.injEq, D.lst.injEq, Arg.d.injEq, List.cons.injEq, exists_and_left, exists_and_right, exists_eq_left', exists_eq_left, exists_eq_right, exists_eq_right', exists_eq, exists_eq', and_true, true_and, and_assoc, and_self, exists_const, reduceCtorEq]
          simp
          exact hq
        | false =>
          have e1 : isKi ss (.tup [l, .tup js]) = (js.all (isJo ss) && ascJ js) := by simp [isKi, g1, g2]
          rw [e1] at hq
          simp only [isiD, truD, g2, gIsB, gNotB, D.adr.injEq, Cont.pool.injEq, ixN31, ne_eq, List.map_cons, List.map_nil, wPoolOpen, wPoolClose, wPop0, wPopTo, wListOwn, wRemove, wRaise0, wRaise1, wAugOwn, wEnumL, wTru, wSlA, gCatA, gLtT, gLeT, wFrz, wChain3, wAttr, wMkF, wEnumT, wRevT, wDict0, wDict1, numD3, Nat.reduceAdd, atI0, atI1, atI2, atI3, atI4, ixN51, ixN52, ixN53, List.length_map, wNever, scal, V.int.injEq, V.str.injEq, V.bl.injEq, wSq, wNext, wBreak, wCont, wDrop, wRet, wRetN, wIfS, wAsg, wPar, wLstOwn, wAppend, wSetOwn, wIxOwn, wPeek, wRetOwn, wRetFr, wFor, wB, wNot, wAnd, wOr, wAndV, wOrV, wNotV, wIf, wChain, wNil, wCons, wCB, wTup, wLst, wNoPart, wPart, wSlT, wSlL, wSeq, wRng1, wRng2, wZip, wName, wNilT, wConsT, wTupT, wYes, wNeg, wVar, wC, wOp, wcNil, wcCons, wcOwn, wCall, wCallOwn, slots, cellsOf, OwnArgs, putBack, g2I, g2IC, gLen, gAbs, gGcd, gInt1, gTupleOf, gListOf, gIx, gCatT, gCat, gEq, gNe, gIsN, gNotN, scD, seqD_t, seqD_l, seqD_f, isNonD, List.nodup_cons, List.mem_cons, List.not_mem_nil, or_false, not_false_eq_true, Nat.reduceEqDiff, L3.Keeps, ends, wipeD, List.replicate, List.cons_append, List.nil_append, List.append_nil, List.getElem?_cons_zero, List.getElem?_cons_succ, List.set_cons_zero, List.set_cons_succ, List.getD_cons_zero, List.getD_cons_succ, List.length_cons, List.length_nil, List.nodup_nil, Option.some.injEq, Cell.dat.injEq, Cell.own.injEq, Cont.lst.injEq, D.bl.injEq, D.int.injEq, D.str.injEq, D.tup.injEq, D.lst.injEq, Arg.d.injEq, List.cons.injEq, exists_and_left, exists_and_right, exists_eq_left', exists_eq_left, exists_eq_right, exists_eq_right', exists_eq, exists_eq', and_true, true_and, and_assoc, and_self, exists_const, reduceCtorEq]
          simp
          refine c1_is_kind_ok hs hjs (by omega) ?_
          refine gAll_map ?_
          cases ht : js.all (isJo ss) with
          | false =>
            rw [ht] at hq
            simp only [gIsB, gNotB, D.adr.injEq, Cont.pool.injEq, ixN31, ne_eq, List.map_cons, List.map_nil, wPoolOpen, wPoolClose, wPop0, wPopTo, wListOwn, wRemove, wRaise0, wRaise1, wAugOwn, wEnumL, wTru, wSlA, gCatA, gLtT, gLeT, wFrz, wChain3, wAttr, wMkF, wEnumT, wRevT, wDict0, wDict1, numD3, Nat.reduceAdd, atI0, atI1, atI2, atI3, atI4, ixN51, ixN52, ixN53, List.length_map, wNever, scal, V.int.injEq, V.str.injEq, V.bl.injEq, wSq, wNext, wBreak, wCont, wDrop, wRet, wRetN, wIfS, wAsg, wPar, wLstOwn, wAppend, wSetOwn, wIxOwn, wPeek, wRetOwn, wRetFr, wFor, wB, wNot, wAnd, wOr, wAndV, wOrV, wNotV, wIf, wChain, wNil, wCons, wCB, wTup, wLst, wNoPart, wPart, wSlT, wSlL, wSeq, wRng1, wRng2, wZip, wName, wNilT, wConsT, wTupT, wYes, wNeg, wVar, wC, wOp, wcNil, wcCons, wcOwn, wCall, wCallOwn, slots, cellsOf, OwnArgs, putBack, g2I, g2IC, gLen, gAbs, gGcd, gInt1, gTupleOf, gListOf, gIx, gCatT, gCat, gEq, gNe, gIsN, gNotN, scD, seqD_t, seqD_l, seqD_f, isNonD, List.nodup_cons, List.mem_cons, List.not_mem_nil, or_false, not_false_eq_true, Nat.reduceEqDiff, L3.Keeps, ends, wipeD, List.replicate, List.cons_append, List.nil_append, List.append_nil, List.getElem?_cons_zero, List.getElem?_cons_succ, List.set_cons_zero, List.set_cons_succ, List.getD_cons_zero, List.getD_cons_succ, List.length_cons, List.length_nil, List.nodup_nil, Option.some.injEq, Cell.dat.injEq, Cell.own.injEq, Cont.lst.injEq, D.bl.injEq, D.int.injEq, D.str.injEq, D.tup.injEq, D.lst.injEq, Arg.d.injEq, List.cons.injEq, exists_and_left, exists_and_right, exists_eq_left', exists_eq_left, exists_eq_right, exists_eq_right', exists_eq, exists_eq', and_true, true_and, and_assoc, and_self, exists_const, reduceCtorEq]
            simpa using hq
          | true =>
            rw [ht] at hq
            simp only [fs_ascends, gIsB, gNotB, D.adr.injEq, Cont.pool.injEq, ixN31, ne_eq, List.map_cons, List.map_nil, wPoolOpen, wPoolClose, wPop0, wPopTo, wListOwn, wRemove, wRaise0, wRaise1, wAugOwn, wEnumL, wTru, wSlA, gCatA, gLtT, gLeT, wFrz, wChain3, wAttr, wMkF, wEnumT, wRevT, wDict0, wDict1, numD3, Nat.reduceAdd, atI0, atI1, atI2, atI3, atI4, ixN51, ixN52, ixN53, List.length_map, wNever, scal, V.int.injEq, V.str.injEq, V.bl.injEq, wSq, wNext, wBreak, wCont, wDrop, wRet, wRetN, wIfS, wAsg, wPar, wLstOwn, wAppend, wSetOwn, wIxOwn, wPeek, wRetOwn, wRetFr, wFor, wB, wNot, wAnd, wOr, wAndV, wOrV, wNotV, wIf, wChain, wNil, wCons, wCB, wTup, wLst, wNoPart, wPart, wSlT, wSlL, wSeq, wRng1, wRng2, wZip, wName, wNilT, wConsT, wTupT, wYes, wNeg, wVar, wC, wOp, wcNil, wcCons, wcOwn, wCall, wCallOwn, slots, cellsOf, OwnArgs, putBack, g2I, g2IC, gLen, gAbs, gGcd, gInt1, gTupleOf, gListOf, gIx, gCatT, gCat, gEq, gNe, gIsN, gNotN, scD, seqD_t, seqD_l, seqD_f, isNonD, List.nodup_cons, List.mem_cons, List.not_mem_nil, or_false, not_false_eq_true, Nat.reduceEqDiff, L3.Keeps, ends, wipeD, List.replicate, List.cons_append, List.nil_append, List.append_nil, List.getElem?_cons_zero, List.getElem?_cons_succ, List.set_cons_zero, List.set_cons_succ, List.getD_cons_zero, List.getD_cons_succ, List.length_cons, List.length_nil, List.nodup_nil, Option.some.injEq, Cell.dat.injEq, Cell.own.injEq, Cont.lst.injEq, D.bl.injEq, D.int.injEq, D.str.injEq, D.tup.injEq, D.lst.injEq, Arg.d.injEq, List.cons.injEq, exists_and_left, exists_and_right, exists_eq_left', exists_eq_left, exists_eq_right, exists_eq_right', exists_eq, exists_eq', and_true, true_and, and_assoc, and_self, exists_const, reduceCtorEq]
            simp
            refine ⟨hn, fun d hm => ?_, hq⟩
            obtain ⟨a, b, rfl, _⟩ := jo_pair (List.all_eq_true.mp ht d hm)
            exact ⟨a, b, rfl⟩
      | _ =>
        simp only [isiD, gIsB, gNotB, D.adr.injEq, Cont.pool.injEq, ixN31, ne_eq, List.map_cons, List.map_nil, wPoolOpen, wPoolClose, wPop0, wPopTo, wListOwn, wRemove, wRaise0, wRaise1, wAugOwn, wEnumL, wTru, wSlA, gCatA, gLtT, gLeT, wFrz, wChain3, wAttr, wMkF, wEnumT, wRevT, wDict0, wDict1, numD3, Nat.reduceAdd, atI0, atI1, atI2, atI3, atI4, ixN51, ixN52, ixN53, List.length_map, wNever, scal, V.int.injEq, V.str.injEq, V.bl.injEq, wSq, wNext, wBreak, wCont, wDrop, wRet, wRetN, wIfS, wAsg, wPar, wLstOwn, wAppend, wSetOwn, wIxOwn, wPeek, wRetOwn, wRetFr, wFor, wB, wNot, wAnd, wOr, wAndV, wOrV, wNotV, wIf, wChain, wNil, wCons, wCB, wTup, wLst, wNoPart, wPart, wSlT, wSlL, wSeq, wRng1, wRng2, wZip, wName, wNilT, wConsT, wTupT, wYes, wNeg, wVar, wC, wOp, wcNil, wcCons, wcOwn, wCall, wCallOwn, slots, cellsOf, OwnArgs, putBack, g2I, g2IC, gLen, gAbs, gGcd, gInt1, gTupleOf, gListOf, gIx, gCatT, gCat, gEq, gNe, gIsN, gNotN, scD, seqD_t, seqD_l, seqD_f, isNonD, List.nodup_cons, List.mem_cons, List.not_mem_nil, or_false, not_false_eq_true, Nat.reduceEqDiff, L3.Keeps, ends, wipeD, List.replicate, List.cons_append, List.nil_append, List.append_nil, List.getElem?_cons_zero, List.getElem?_cons_succ, List.set_cons_zero, List.set_cons_succ, List.getD_cons_zero, List.getD_cons_succ, List.length_cons, List.length_nil, List.nodup_nil, Option.some.injEq, Cell.dat.injEq, Cell.own.injEq, Cont.lst.injEq, D.bl.injEq, D.int.injEq, D.str.injEq, D.tup.injEq, D.lst.injEq, Arg.d.injEq, List.cons.injEq, exists_and_left, exists_and_right, exists_eq_left', exists_eq_left, exists_eq_right, exists_eq_right', exists_eq, exists_eq', and_true, true_and, and_assoc, and_self, exists_const, reduceCtorEq]
        simp
        exact hq
theorem ok_is_kind (T : Txt K mg) : FnOk P w K mg base (L2.CX P w) 5 T.f_is_kind T.fd_is_kind ["sorts", "thing"] (spOf K 2 (fs_is_kind K)) := by
  refine def_ok T.F_is_kind sc_is_kind (wb := w_is_kind K) pure_is_kind ?_
  intro cdv A outer s H E hr tk
  exact ⟨_, (pss_cons (ps_if (pt_not (pt_val (pe_callS (ok_is_tuple_of T) (hr.mono (by decide)) rfl T.g_is_tuple_of T.k_is_tuple_of T.b_is_tuple_of (fun σ => passAt tk σ) (pa_cons pe_int (pa_cons pe_int (pa_cons (pv 1) pa_nil))))))
        (pss_one (ps_ret pe_bl))
        pss_nil)
      (pss_cons (ps_asg (pv 1) (pg_tup (by rfl) (pgs_cons (pg_name (i := 2) sc_is_kind.nd rfl (by first | exact Or.inl rfl | exact Or.inr rfl)) (pgs_cons (pg_name (i := 3) sc_is_kind.nd rfl (by first | exact Or.inl rfl | exact Or.inr rfl)) pgs_nil))))
      (pss_cons (ps_if (PW.pt (pw_or (pt_not (pt_val (pe_callS (ok_is_list T) (hr.mono (by decide)) rfl T.g_is_list T.k_is_list T.b_is_list (fun σ => passAt tk σ) (pa_cons (pv 2) pa_nil)))) (pw_or (pt_not (pt_val (pe_callB call_isi (by rfl) T.z_isinstance (by decide +kernel) (pa_cons (pv 3) (pa_cons (pe_bltn (v := .ty "tuple") (by rfl) T.z_tuple (by decide +kernel) rfl) pa_nil))))) (pw_or1 (pt_not (pt_truth (pv 3) (fun _ => rfl)))))))
        (pss_one (ps_ret pe_bl))
        pss_nil)
      (pss_one (ps_ret (pe_and (pe_callB (cr_all (by rfl)) (by rfl) T.z_all (by decide +kernel) (pa_cons (pe_lc (own := [("join", 4)]) (g := (gName 4)) (tt := tYes) (te := (tCallS (spOf K 2 (fs_is_join K)) (L2.WE W0) (tCons (tVar 0) (tCons (tVar 4) tNil)))) rfl sc_is_kind.nd (pi_seq (pv 3)) (blkOk_by (N := ["sorts", "thing", "thresholds", "joins", "join"]) (sc := defScope s_is_kind) (by decide +kernel)) (fun _ _ _ _ _ => (pg_name (i := 4) sc_is_kind.nd rfl (by first | exact Or.inl rfl | exact Or.inr rfl))) (fun _ _ _ _ _ => pts_nil) (fun _ _ _ _ _ => (pe_callS (ok_is_join T) (hr.mono (by decide)) rfl T.g_is_join T.k_is_join T.b_is_join (fun σ => passAt L2.takes0 σ) (pa_cons (pv 0) (pa_cons (pv 4) pa_nil))))) pa_nil)) (pe_one (pe_callS (ok_ascends T) (hr.mono (by decide)) rfl T.g_ascends T.k_ascends T.b_ascends (fun σ => passAt tk σ) (pa_cons (pv 3) pa_nil))))))))),
    (ds_seq (ds_if (dt_not (dt_B (de_call (n := 3) (fs := fs_is_tuple_of K) (dac_cons de_int (dac_cons de_int (dac_cons (de_var 1) dac_nil)))))) (ds_ret de_bl) ds_nil)
      (ds_seq (ds_asg (de_var 1) (dg_tup (n := 2) (dgs_cons (dg_name 2) (dgs_cons (dg_name 3) dgs_nil))))
      (ds_seq (ds_if (dt_or (dt_not (dt_B (de_call (n := 1) (fs := fs_is_list K) (dac_cons (de_var 2) dac_nil)))) (dt_or (dt_not (dt_B (de_cb o_isi (da_cons (de_var 3) (da_cons de_ty da_nil))))) (dt_not (dt_tru (de_var 3))))) (ds_ret de_bl) ds_nil)
      (ds_ret (de_and (de_cb o_all (da_cons (de_lc (vs := [4]) (wI := (wSeq (wVar 3))) (wg := (wName 4)) (wt := wYes) (we := (wCall 2 (fs_is_join K) (wcCons (wVar 0) (wcCons (wVar 4) wcNil)))) (di_seq (de_var 3)) (dg_name 4) dt_yes (de_call (n := 2) (fs := fs_is_join K) (dac_cons (de_var 0) (dac_cons (de_var 4) dac_nil))) (by decide)) da_nil)) (de_call (n := 1) (fs := fs_ascends K) (dac_cons (de_var 3) dac_nil)))))))⟩
abbrev s_Book__init__ : Stmt := inClass (topS 36) 0
theorem sc_Book__init__ : FnScope ["self", "sorts", "kinds", "number", "kind"] ["self", "sorts", "kinds"] (defScope s_Book__init__) := ⟨rfl, rfl, rfl, by decide +kernel, rfl, by decide +kernel, by decide +kernel⟩
def l1_Book__init__ (K : PySem.W.Frag) (Z : CT) : SW := wFor (wEnumT (wCons (wVar 2) wNil)) (wTupT 2 (wConsT (wName 3) (wConsT (wName 4) wNilT))) (wIfS (wNot (wB (wCall 2 (fs_is_kind K) (wcCons (wVar 1) (wcCons (wVar 4) wcNil))))) (wRaise1 Z.C_BadBook "part" (wVar 3)) wNext)
def w_Book__init__ (K : PySem.W.Frag) (Z : CT) : SW := (wSq (wIfS (wNot (wB (wCall 1 (fs_is_sort_tuple K) (wcCons (wVar 1) wcNil)))) (wRaise1 Z.C_BadBook "part" (wC (.str "sorts"))) wNext)
  (wSq (wIfS (wNot (wB (wCall 3 (fs_is_tuple_of K) (wcCons (wC (.int 0)) (wcCons (wC (.int 5)) (wcCons (wVar 2) wcNil)))))) (wRaise1 Z.C_BadBook "part" (wC (.str "kinds"))) wNext)
  (wSq (l1_Book__init__ K Z)
  (wSq (wFld Z.C_Book 0 "sorts" (wVar 1))
  (wFld Z.C_Book 0 "kinds" (wVar 2))))))
def firstBadP (P : D → Bool) : Nat → List D → Option Nat
  | _, [] => none
  | k, d :: r => if P d = true then firstBadP P (k + 1) r else some k
def badBook (ss ks : D) : Option D :=
  if isSs ss = false then some (.str "sorts") else if isTupOf 0 5 ks = false then some (.str "kinds") else
  match ss, ks with
  | .tup us, .tup ds => (firstBadP (isKi us) 0 ds).map fun i => .int (i : Nat)
  | _, _ => none
/-- kinds with joins that are not long -/
def KsShort : D → Prop | .tup ds => ∀ d ∈ ds, JsShort d | _ => True
def fs_Book__init__ (K : PySem.W.Frag) (Z : CT) : FS := fun cs q e => ∃ x dx ws ps, cs = [.own x (.obj Z.C_Book dx []), .dat ws, .dat ps] ∧ OkD K ws ∧ OkD K ps ∧ KsShort ps ∧
  (∀ part, badBook ws ps = some part → e ⟨Z.C_BadBook, [("part", part)]⟩ cs) ∧ (badBook ws ps = none → q .non [.own x (.obj Z.C_Book dx [("sorts", ws), ("kinds", ps)]), .dat ws, .dat ps])
theorem l1_Book__init___ok {Z : CT} {c0 c3 c4 : Cell} {us ds : List D} {E : EndsD} (hu : ∀ d ∈ us, isSo d = true) (hd : OkD K (.tup ds)) (hj : KsShort (.tup ds)) (hb : ∀ i, firstBadP (isKi us) 0 ds = some i → ∀ c3 c4, E.ex ⟨Z.C_BadBook, [("part", .int (i : Nat))]⟩ [c0, .dat (.tup us), .dat (.tup ds), c3, c4]) (hn : firstBadP (isKi us) 0 ds = none → ∀ c3 c4, E.nx [c0, .dat (.tup us), .dat (.tup ds), c3, c4]) : l1_Book__init__ K Z E [c0, .dat (.tup us), .dat (.tup ds), c3, c4] := by
  unfold l1_Book__init__ wFor
  refine ⟨_, rfl, ds, rfl, fun i τ => (∃ c3 c4, τ = [c0, .dat (.tup us), .dat (.tup ds), c3, c4]) ∧ firstBadP (isKi us) 0 ds = firstBadP (isKi us) i (ds.drop i), ⟨⟨_, _, rfl⟩, rfl⟩, ?_, ?_⟩
  · rintro i d τ2 hi ⟨⟨c3, c4, rfl⟩, hf⟩
    have hlt : i < ds.length := by
      have := (List.getElem?_eq_some_iff.mp hi).1
      rwa [List.length_mapIdx] at this
    rw [List.getElem?_mapIdx, List.getElem?_eq_getElem hlt] at hi
    cases hi
    have ok : OkD K ds[i] := okTup hd (List.getElem_mem hlt)
    have sj : JsShort ds[i] := hj _ (List.getElem_mem hlt)
    rw [List.drop_eq_getElem_cons hlt, firstBadP] at hf
    cases h : isKi us ds[i] with
    | false =>
      rw [h] at hf
      simp only [fs_is_kind, wRaise1, seqD_t, ok, sj, h, gIsB, gNotB, D.adr.injEq, Cont.pool.injEq, ixN31, ne_eq, List.map_cons, List.map_nil, wPoolOpen, wPoolClose, wPop0, wPopTo, wListOwn, wRemove, wRaise0, wRaise1, wAugOwn, wEnumL, wTru, wSlA, gCatA, gLtT, gLeT, wFrz, wChain3, wAttr, wMkF, wEnumT, wRevT, wDict0, wDict1, numD3, Nat.reduceAdd, atI0, atI1, atI2, atI3, atI4, ixN51, ixN52, ixN53, List.length_map, wNever, scal, V.int.injEq, V.str.injEq, V.bl.injEq, wSq, wNext, wBreak, wCont, wDrop, wRet, wRetN, wIfS, wAsg, wPar, wLstOwn, wAppend, wSetOwn, wIxOwn, wPeek, wRetOwn, wRetFr, wFor, wB, wNot, wAnd, wOr, wAndV, wOrV, wNotV, wIf, wChain, wNil, wCons, wCB, wTup, wLst, wNoPart, wPart, wSlT, wSlL, wSeq, wRng1, wRng2, wZip, wName, wNilT, wConsT, wTupT, wYes, wNeg, wVar, wC, wOp, wcNil, wcCons, wcOwn, wCall, wCallOwn, slots, cellsOf, OwnArgs, putBack, g2I, g2IC, gLen, gAbs, gGcd, gInt1, gTupleOf, gListOf, gIx, gCatT, gCat, gEq, gNe, gIsN, gNotN, scD, seqD_t, seqD_l, seqD_f, isNonD, List.nodup_cons, List.mem_cons, List.not_mem_nil, or_false, not_false_eq_true, Nat.reduceEqDiff, L3.Keeps, ends, wipeD, List.replicate, List.cons_append, List.nil_append, List.append_nil, List.getElem?_cons_zero, List.getElem?_cons_succ, List.set_cons_zero, List.set_cons_succ, List.getD_cons_zero, List.getD_cons_succ, List.length_cons, List.length_nil, List.nodup_nil, Option.some.injEq, Cell.dat.injEq, Cell.own.injEq, Cont.lst.injEq, D.bl.injEq, D.int.injEq, D.str.injEq, D.tup.injEq, D.lst.injEq, Arg.d.injEq, List.cons.injEq, exists_and_left, exists_and_right, exists_eq_left', exists_eq_left, exists_eq_right, exists_eq_right', exists_eq, exists_eq', and_true, true_and, and_assoc, and_self, exists_const, reduceCtorEq]
      simp
      exact ⟨hu, hb i hf _ _⟩
    | true =>
      rw [h] at hf
      simp only [fs_is_kind, wRaise1, seqD_t, ok, sj, h, gIsB, gNotB, D.adr.injEq, Cont.pool.injEq, ixN31, ne_eq, List.map_cons, List.map_nil, wPoolOpen, wPoolClose, wPop0, wPopTo, wListOwn, wRemove, wRaise0, wRaise1, wAugOwn, wEnumL, wTru, wSlA, gCatA, gLtT, gLeT, wFrz, wChain3, wAttr, wMkF, wEnumT, wRevT, wDict0, wDict1, numD3, Nat.reduceAdd, atI0, atI1, atI2, atI3, atI4, ixN51, ixN52, ixN53, List.length_map, wNever, scal, V.int.injEq, V.str.injEq, V.bl.injEq, wSq, wNext, wBreak, wCont, wDrop, wRet, wRetN, wIfS, wAsg, wPar, wLstOwn, wAppend, wSetOwn, wIxOwn, wPeek, wRetOwn, wRetFr, wFor, wB, wNot, wAnd, wOr, wAndV, wOrV, wNotV, wIf, wChain, wNil, wCons, wCB, wTup, wLst, wNoPart, wPart, wSlT, wSlL, wSeq, wRng1, wRng2, wZip, wName, wNilT, wConsT, wTupT, wYes, wNeg, wVar, wC, wOp, wcNil, wcCons, wcOwn, wCall, wCallOwn, slots, cellsOf, OwnArgs, putBack, g2I, g2IC, gLen, gAbs, gGcd, gInt1, gTupleOf, gListOf, gIx, gCatT, gCat, gEq, gNe, gIsN, gNotN, scD, seqD_t, seqD_l, seqD_f, isNonD, List.nodup_cons, List.mem_cons, List.not_mem_nil, or_false, not_false_eq_true, Nat.reduceEqDiff, L3.Keeps, ends, wipeD, List.replicate, List.cons_append, List.nil_append, List.append_nil, List.getElem?_cons_zero, List.getElem?_cons_succ, List.set_cons_zero, List.set_cons_succ, List.getD_cons_zero, List.getD_cons_succ, List.length_cons, List.length_nil, List.nodup_nil, Option.some.injEq, Cell.dat.injEq, Cell.own.injEq, Cont.lst.injEq, D.bl.injEq, D.int.injEq, D.str.injEq, D.tup.injEq, D.lst.injEq, Arg.d.injEq, List.cons.injEq, exists_and_left, exists_and_right, exists_eq_left', exists_eq_left, exists_eq_right, exists_eq_right', exists_eq, exists_eq', and_true, true_and, and_assoc, and_self, exists_const, reduceCtorEq]
      simp
      exact ⟨hu, hf⟩
  · rintro τ2 ⟨⟨c3, c4, rfl⟩, hf⟩
    rw [List.length_mapIdx, List.drop_length] at hf
    exact hn hf _ _
theorem pure_Book__init__ {Z : CT} : PureD 3 2 (fs_Book__init__ K Z) (w_Book__init__ K Z) := by
  rintro cs q e - ⟨x, dx, ws, ps, rfl, h1, h2, hj, hb, hn⟩
  cases g1 : isSs ws with
  | false =>
    simp only [badBook, g1, if_true] at hb
    simp only [w_Book__init__, fs_is_sort_tuple, wRaise1, h1, g1, gIsB, gNotB, D.adr.injEq, Cont.pool.injEq, ixN31, ne_eq, List.map_cons, List.map_nil, wPoolOpen, wPoolClose, wPop0, wPopTo, wListOwn, wRemove, wRaise0, wRaise1, wAugOwn, wEnumL, wTru, wSlA, gCatA, gLtT, gLeT, wFrz, wChain3, wAttr, wMkF, wEnumT, wRevT, wDict0, wDict1, numD3, Nat.reduceAdd, atI0, atI1, atI2, atI3, atI4, ixN51, ixN52, ixN53, List.length_map, wNever, scal, V.int.injEq, V.str.injEq, V.bl.injEq, wSq, wNext, wBreak, wCont, wDrop, wRet, wRetN, wIfS, wAsg, wPar, wLstOwn, wAppend, wSetOwn, wIxOwn, wPeek, wRetOwn, wRetFr, wFor, wB, wNot, wAnd, wOr, wAndV, wOrV, wNotV, wIf, wChain, wNil, wCons, wCB, wTup, wLst, wNoPart, wPart, wSlT, wSlL, wSeq, wRng1, wRng2, wZip, wName, wNilT, wConsT, wTupT, wYes, wNeg, wVar, wC, wOp, wcNil, wcCons, wcOwn, wCall, wCallOwn, slots, cellsOf, OwnArgs, putBack, g2I, g2IC, gLen, gAbs, gGcd, gInt1, gTupleOf, gListOf, gIx, gCatT, gCat, gEq, gNe, gIsN, gNotN, scD, seqD_t, seqD_l, seqD_f, isNonD, List.nodup_cons, List.mem_cons, List.not_mem_nil, or_false, not_false_eq_true, Nat.reduceEqDiff, L3.Keeps, ends, wipeD, List.replicate, List.cons_append, List.nil_append, List.append_nil, List.getElem?_cons_zero, List.getElem?_cons_succ, List.set_cons_zero, List.set_cons_succ, List.getD_cons_zero, List.getD_cons_succ, List.length_cons, List.length_nil, List.nodup_nil, Option.some.injEq, Cell.dat.injEq, Cell.own.injEq, Cont.lst.injEq, D.bl.injEq, D.int.injEq, D.str.injEq, D.tup.injEq, D.lst.injEq, Arg.d.injEq, List.cons.injEq, exists_and_left, exists_and_right, exists_eq_left', exists_eq_left, exists_eq_right, exists_eq_right', exists_eq, exists_eq', and_true, true_and, and_assoc, and_self, exists_const, reduceCtorEq]
    simp
    exact hb _ rfl
  | true =>
    cases g2 : isTupOf 0 5 ps with
    | false =>
      simp only [badBook, g1, g2, if_true, Bool.true_eq_false, if_false] at hb
      simp only [w_Book__init__, fs_is_sort_tuple, fs_is_tuple_of, wRaise1, h1, h2, g1, g2, gIsB, gNotB, D.adr.injEq, Cont.pool.injEq, ixN31, ne_eq, List.map_cons, List.map_nil, wPoolOpen, wPoolClose, wPop0, wPopTo, wListOwn, wRemove, wRaise0, wRaise1, wAugOwn, wEnumL, wTru, wSlA, gCatA, gLtT, gLeT, wFrz, wChain3, wAttr, wMkF, wEnumT, wRevT, wDict0, wDict1, numD3, Nat.reduceAdd, atI0, atI1, atI2, atI3, atI4, ixN51, ixN52, ixN53, List.length_map, wNever, scal, V.int.injEq, V.str.injEq, V.bl.injEq, wSq, wNext, wBreak, wCont, wDrop, wRet, wRetN, wIfS, wAsg, wPar, wLstOwn, wAppend, wSetOwn, wIxOwn, wPeek, wRetOwn, wRetFr, wFor, wB, wNot, wAnd, wOr, wAndV, wOrV, wNotV, wIf, wChain, wNil, wCons, wCB, wTup, wLst, wNoPart, wPart, wSlT, wSlL, wSeq, wRng1, wRng2, wZip, wName, wNilT, wConsT, wTupT, wYes, wNeg, wVar, wC, wOp, wcNil, wcCons, wcOwn, wCall, wCallOwn, slots, cellsOf, OwnArgs, putBack, g2I, g2IC, gLen, gAbs, gGcd, gInt1, gTupleOf, gListOf, gIx, gCatT, gCat, gEq, gNe, gIsN, gNotN, scD, seqD_t, seqD_l, seqD_f, isNonD, List.nodup_cons, List.mem_cons, List.not_mem_nil, or_false, not_false_eq_true, Nat.reduceEqDiff, L3.Keeps, ends, wipeD, List.replicate, List.cons_append, List.nil_append, List.append_nil, List.getElem?_cons_zero, List.getElem?_cons_succ, List.set_cons_zero, List.set_cons_succ, List.getD_cons_zero, List.getD_cons_succ, List.length_cons, List.length_nil, List.nodup_nil, Option.some.injEq, Cell.dat.injEq, Cell.own.injEq, Cont.lst.injEq, D.bl.injEq, D.int.injEq, D.str.injEq, D.tup.injEq, D.lst.injEq, Arg.d.injEq, List.cons.injEq, exists_and_left, exists_and_right, exists_eq_left', exists_eq_left, exists_eq_right, exists_eq_right', exists_eq, exists_eq', and_true, true_and, and_assoc, and_self, exists_const, reduceCtorEq]
      simp
      exact hb _ rfl
    | true =>
      obtain ⟨us, rfl, u1, u4, us1, us2⟩ := ss_shape g1
      obtain ⟨ds, rfl⟩ : ∃ us, ps = .tup us := by cases ps <;> first | exact ⟨_, rfl⟩ | cases g2
      simp only [badBook, g1, g2, Bool.true_eq_false, if_false, Option.map_eq_some_iff, Option.map_eq_none_iff] at hb hn
      simp only [w_Book__init__, fs_is_sort_tuple, fs_is_tuple_of, wRaise1, h1, h2, g1, g2, gIsB, gNotB, D.adr.injEq, Cont.pool.injEq, ixN31, ne_eq, List.map_cons, List.map_nil, wPoolOpen, wPoolClose, wPop0, wPopTo, wListOwn, wRemove, wRaise0, wRaise1, wAugOwn, wEnumL, wTru, wSlA, gCatA, gLtT, gLeT, wFrz, wChain3, wAttr, wMkF, wEnumT, wRevT, wDict0, wDict1, numD3, Nat.reduceAdd, atI0, atI1, atI2, atI3, atI4, ixN51, ixN52, ixN53, List.length_map, wNever, scal, V.int.injEq, V.str.injEq, V.bl.injEq, wSq, wNext, wBreak, wCont, wDrop, wRet, wRetN, wIfS, wAsg, wPar, wLstOwn, wAppend, wSetOwn, wIxOwn, wPeek, wRetOwn, wRetFr, wFor, wB, wNot, wAnd, wOr, wAndV, wOrV, wNotV, wIf, wChain, wNil, wCons, wCB, wTup, wLst, wNoPart, wPart, wSlT, wSlL, wSeq, wRng1, wRng2, wZip, wName, wNilT, wConsT, wTupT, wYes, wNeg, wVar, wC, wOp, wcNil, wcCons, wcOwn, wCall, wCallOwn, slots, cellsOf, OwnArgs, putBack, g2I, g2IC, gLen, gAbs, gGcd, gInt1, gTupleOf, gListOf, gIx, gCatT, gCat, gEq, gNe, gIsN, gNotN, scD, seqD_t, seqD_l, seqD_f, isNonD, List.nodup_cons, List.mem_cons, List.not_mem_nil, or_false, not_false_eq_true, Nat.reduceEqDiff, L3.Keeps, ends, wipeD, List.replicate, List.cons_append, List.nil_append, List.append_nil, List.getElem?_cons_zero, List.getElem?_cons_succ, List.set_cons_zero, List.set_cons_succ, List.getD_cons_zero, List.getD_cons_succ, List.length_cons, List.length_nil, List.nodup_nil, Option.some.injEq, Cell.dat.injEq, Cell.own.injEq, Cont.lst.injEq, D.bl.injEq, D.int.injEq, D.str.injEq, D.tup.injEq, D.lst.injEq, Arg.d.injEq, List.cons.injEq, exists_and_left, exists_and_right, exists_eq_left', exists_eq_left, exists_eq_right, exists_eq_right', exists_eq, exists_eq', and_true, true_and, and_assoc, and_self, exists_const, reduceCtorEq]
      simp
      refine l1_Book__init___ok us1 h2 hj (fun i hi c3 c4 => ?_) fun h c3 c4 => ?_
      · simp only [gIsB, gNotB, D.adr.injEq, Cont.pool.injEq, ixN31, ne_eq, List.map_cons, List.map_nil, wPoolOpen, wPoolClose, wPop0, wPopTo, wListOwn, wRemove, wRaise0, wRaise1, wAugOwn, wEnumL, wTru, wSlA, gCatA, gLtT, gLeT, wFrz, wChain3, wAttr, wMkF, wEnumT, wRevT, wDict0, wDict1, numD3, Nat.reduceAdd, atI0, atI1, atI2, atI3, atI4, ixN51, ixN52, ixN53, List.length_map, wNever, scal, V.int.injEq, V.str.injEq, V.bl.injEq, wSq, wNext, wBreak, wCont, wDrop, wRet, wRetN, wIfS, wAsg, wPar, wLstOwn, wAppend, wSetOwn, wIxOwn, wPeek, wRetOwn, wRetFr, wFor, wB, wNot, wAnd, wOr, wAndV, wOrV, wNotV, wIf, wChain, wNil, wCons, wCB, wTup, wLst, wNoPart, wPart, wSlT, wSlL, wSeq, wRng1, wRng2, wZip, wName, wNilT, wConsT, wTupT, wYes, wNeg, wVar, wC, wOp, wcNil, wcCons, wcOwn, wCall, wCallOwn, slots, cellsOf, OwnArgs, putBack, g2I, g2IC, gLen, gAbs, gGcd, gInt1, gTupleOf, gListOf, gIx, gCatT, gCat, gEq, gNe, gIsN, gNotN, scD, seqD_t, seqD_l, seqD_f, isNonD, List.nodup_cons, List.mem_cons, List.not_mem_nil, or_false, not_false_eq_true, Nat.reduceEqDiff, L3.Keeps, ends, wipeD, List.replicate, List.cons_append, List.nil_append, List.append_nil, List.getElem?_cons_zero, List.getElem?_cons_succ, List.set_cons_zero, List.set_cons_succ, List.getD_cons_zero, List.getD_cons_succ, List.length_cons, List.length_nil, List.nodup_nil, Option.some.injEq, Cell.dat.injEq, Cell.own.injEq, Cont.lst.injEq, D.bl.injEq, D.int.injEq, D.str.injEq, D.tup.injEq, D.lst.injEq, Arg.d.injEq, List.cons.injEq, exists_and_left, exists_and_right, exists_eq_left', exists_eq_left, exists_eq_right, exists_eq_right', exists_eq, exists_eq', and_true, true_and, and_assoc, and_self, exists_const, reduceCtorEq]
        exact hb _ ⟨i, hi, rfl⟩
      · have e : putD (Str.ofString "kinds") (D.tup ds) [(Str.ofString "sorts", D.tup us)] = [(Str.ofString "sorts", D.tup us), (Str.ofString "kinds", D.tup ds)] := by
          unfold putD
          rw [if_neg (by decide +kernel)]
          rfl
        simp only [wFld, gIsB, gNotB, D.adr.injEq, Cont.pool.injEq, ixN31, ne_eq, List.map_cons, List.map_nil, wPoolOpen, wPoolClose, wPop0, wPopTo, wListOwn, wRemove, wRaise0, wRaise1, wAugOwn, wEnumL, wTru, wSlA, gCatA, gLtT, gLeT, wFrz, wChain3, wAttr, wMkF, wEnumT, wRevT, wDict0, wDict1, numD3, Nat.reduceAdd, atI0, atI1, atI2, atI3, atI4, ixN51, ixN52, ixN53, List.length_map, wNever, scal, V.int.injEq, V.str.injEq, V.bl.injEq, wSq, wNext, wBreak, wCont, wDrop, wRet, wRetN, wIfS, wAsg, wPar, wLstOwn, wAppend, wSetOwn, wIxOwn, wPeek, wRetOwn, wRetFr, wFor, wB, wNot, wAnd, wOr, wAndV, wOrV, wNotV, wIf, wChain, wNil, wCons, wCB, wTup, wLst, wNoPart, wPart, wSlT, wSlL, wSeq, wRng1, wRng2, wZip, wName, wNilT, wConsT, wTupT, wYes, wNeg, wVar, wC, wOp, wcNil, wcCons, wcOwn, wCall, wCallOwn, slots, cellsOf, OwnArgs, putBack, g2I, g2IC, gLen, gAbs, gGcd, gInt1, gTupleOf, gListOf, gIx, gCatT, gCat, gEq, gNe, gIsN, gNotN, scD, seqD_t, seqD_l, seqD_f, isNonD, List.nodup_cons, List.mem_cons, List.not_mem_nil, or_false, not_false_eq_true, Nat.reduceEqDiff, L3.Keeps, ends, wipeD, List.replicate, List.cons_append, List.nil_append, List.append_nil, List.getElem?_cons_zero, List.getElem?_cons_succ, List.set_cons_zero, List.set_cons_succ, List.getD_cons_zero, List.getD_cons_succ, List.length_cons, List.length_nil, List.nodup_nil, Option.some.injEq, Cell.dat.injEq, Cell.own.injEq, Cont.lst.injEq, D.bl.injEq, D.int.injEq, D.str.injEq, D.tup.injEq, D.lst.injEq, Arg.d.injEq, List.cons.injEq, exists_and_left, exists_and_right, exists_eq_left', exists_eq_left, exists_eq_right, exists_eq_right', exists_eq, exists_eq', and_true, true_and, and_assoc, and_self, exists_const, reduceCtorEq]
        simp
        exact ⟨dx, [], ⟨rfl, rfl⟩, (show (0 : Nat) < 1000 by decide), dx, [(Str.ofString "sorts", D.tup us)], ⟨rfl, rfl⟩, (show (1 : Nat) < 1000 by decide), by rw [e]; exact hn h⟩
theorem ok_Book__init__ (T : Txt K mg) : FnOk P w K mg base (L2.CX P w) 6 T.f_Book__init__ T.fd_Book__init__ ["self", "sorts", "kinds"] (spOf K 3 (fs_Book__init__ K T.Z)) := by
  refine def_ok T.F_Book__init__ sc_Book__init__ (wb := w_Book__init__ K T.Z) pure_Book__init__ ?_
  intro cdv A outer s H E hr tk
  exact ⟨_, (pss_cons (ps_if (pt_not (pt_val (pe_callS (ok_is_sort_tuple T) (hr.mono (by decide)) rfl T.g_is_sort_tuple T.k_is_sort_tuple T.b_is_sort_tuple (fun σ => passAt tk σ) (pa_cons (pv 1) pa_nil))))
        (pss_one (ps_raise rfl tk (pmk_oex T.ox_BadBook T.xi_BadBook T.xt_BadBook (okx_BadBook T) (hr.mono (by decide : 2 ≤ _)) T.bx_BadBook .nil passL rfl T.gx_BadBook (pa_cons pe_str pa_nil))))
        pss_nil)
      (pss_cons (ps_if (pt_not (pt_val (pe_callS (ok_is_tuple_of T) (hr.mono (by decide)) rfl T.g_is_tuple_of T.k_is_tuple_of T.b_is_tuple_of (fun σ => passAt tk σ) (pa_cons pe_int (pa_cons (pe_glob (v := .int 5) rfl T.c_MOST_KINDS ⟨_, rfl⟩) (pa_cons (pv 2) pa_nil))))))
        (pss_one (ps_raise rfl tk (pmk_oex T.ox_BadBook T.xi_BadBook T.xt_BadBook (okx_BadBook T) (hr.mono (by decide : 2 ≤ _)) T.bx_BadBook .nil passL rfl T.gx_BadBook (pa_cons pe_str pa_nil))))
        pss_nil)
      (pss_cons (ps_for (passes_of rfl) rfl (pi_enumT (by rfl) T.z_enumerate (pa_cons (pv 2) pa_nil)) (pg_tup (by rfl) (pgs_cons (pg_name (i := 3) sc_Book__init__.nd rfl (by first | exact Or.inl rfl | exact Or.inr rfl)) (pgs_cons (pg_name (i := 4) sc_Book__init__.nd rfl (by first | exact Or.inl rfl | exact Or.inr rfl)) pgs_nil)))
        (pss_one (ps_if (pt_not (pt_val (pe_callS (ok_is_kind T) (hr.mono (by decide)) rfl T.g_is_kind T.k_is_kind T.b_is_kind (fun σ => passAt tk σ) (pa_cons (pv 1) (pa_cons (pv 4) pa_nil)))))
        (pss_one (ps_raise rfl tk (pmk_oex T.ox_BadBook T.xi_BadBook T.xt_BadBook (okx_BadBook T) (hr.mono (by decide : 2 ≤ _)) T.bx_BadBook .nil passL rfl T.gx_BadBook (pa_cons (pv 3) pa_nil))))
        pss_nil)))
      (pss_cons (ps_fld (pv 0) (pv 1) (by rfl))
      (pss_one (ps_fld (pv 0) (pv 2) (by rfl))))))),
    (ds_seq (ds_if (dt_not (dt_B (de_call (n := 1) (fs := fs_is_sort_tuple K) (dac_cons (de_var 1) dac_nil)))) (ds_raise1 (C := T.Z.C_BadBook) (f := "part") de_str) ds_nil)
      (ds_seq (ds_if (dt_not (dt_B (de_call (n := 3) (fs := fs_is_tuple_of K) (dac_cons de_int (dac_cons de_int (dac_cons (de_var 2) dac_nil)))))) (ds_raise1 (C := T.Z.C_BadBook) (f := "part") de_str) ds_nil)
      (ds_seq (ds_for (wI := (wEnumT (wCons (wVar 2) wNil))) (wg := (wTupT 2 (wConsT (wName 3) (wConsT (wName 4) wNilT)))) (wb := (wIfS (wNot (wB (wCall 2 (fs_is_kind K) (wcCons (wVar 1) (wcCons (wVar 4) wcNil))))) (wRaise1 T.Z.C_BadBook "part" (wVar 3)) wNext)) (di_enumT (da_cons (de_var 2) da_nil)) (dg_tup (n := 2) (dgs_cons (dg_name 3) (dgs_cons (dg_name 4) dgs_nil))) (ds_if (dt_not (dt_B (de_call (n := 2) (fs := fs_is_kind K) (dac_cons (de_var 1) (dac_cons (de_var 4) dac_nil))))) (ds_raise1 (C := T.Z.C_BadBook) (f := "part") (de_var 3)) ds_nil))
      (ds_seq (ds_fld (i := 0) T.it_Book.cl T.na_Book_sorts (de_var 1))
      (ds_fld (i := 0) T.it_Book.cl T.na_Book_kinds (de_var 2))))))⟩
abbrev s_Book__eq__ : Stmt := inClass (topS 36) 1
theorem sc_Book__eq__ : FnScope ["self", "other"] ["self", "other"] (defScope s_Book__eq__) := ⟨rfl, rfl, rfl, by decide +kernel, rfl, by decide +kernel, by decide +kernel⟩
def w_Book__eq__ (K : PySem.W.Frag) (Z : CT) : SW := (wRet (wAndV (wIsiC Z.C_Book K (wVar 1)) (wAndV (wOp gEqD (wAttr Z.C_Book "sorts" (wVar 0)) (wAttr Z.C_Book "sorts" (wVar 1))) (wOp gEqD (wAttr Z.C_Book "kinds" (wVar 0)) (wAttr Z.C_Book "kinds" (wVar 1))))))
abbrev bookI (Z : CT) (us ds : D) : D := .ins Z.C_Book [("sorts", us), ("kinds", ds)]
def PlnD : Nat → D → Prop
  | 0, _ => False
  | _ + 1, .int _ => True
  | n + 1, .tup ds => ds.length ≤ 1000 ∧ ∀ d ∈ ds, PlnD n d
  | _ + 1, _ => False
theorem pln_sh : ∀ {n : Nat} {d : D}, PlnD n d → ShD n d
  | 0, _, h => h.elim
  | n + 1, .int _, _ => trivial
  | n + 1, .tup ds, h => fun d hd => pln_sh (h.2 d hd)
  | n + 1, .non, h => h.elim
  | n + 1, .bl _, h => h.elim
  | n + 1, .str _, h => h.elim
  | n + 1, .lst _, h => h.elim
  | n + 1, .fl _, h => h.elim
  | n + 1, .ty _, h => h.elim
  | n + 1, .oth _, h => h.elim
  | n + 1, .ins _ _, h => h.elim
  | n + 1, .adr _, h => h.elim
/-- a book against a book -/
def fs_Book__eq__ (K : PySem.W.Frag) (Z : CT) : FS := fun cs q _ => ∃ us ds us' ds', cs = [.dat (.ins Z.C_Book [("sorts", us), ("kinds", ds)]), .dat (.ins Z.C_Book [("sorts", us'), ("kinds", ds')])] ∧ InsTy K Z.C_Book ∧ PySem.W.kitOne K (.ref Z.C_Book) (.ref Z.C_Book) = some true ∧
  PlnD 5 us ∧ PlnD 5 ds ∧ PlnD 5 us' ∧ PlnD 5 ds' ∧ q (.bl (eqB us us' && eqB ds ds')) cs
theorem pure_Book__eq__ {Z : CT} : PureD 2 0 (fs_Book__eq__ K Z) (w_Book__eq__ K Z) := by
  rintro cs q e - ⟨us, ds, us', ds', rfl, hi, hk, h1, h2, h3, h4, hq⟩
  simp only [w_Book__eq__, wIsiC, gIsB, gNotB, D.adr.injEq, Cont.pool.injEq, ixN31, ne_eq, List.map_cons, List.map_nil, wPoolOpen, wPoolClose, wPop0, wPopTo, wListOwn, wRemove, wRaise0, wRaise1, wAugOwn, wEnumL, wTru, wSlA, gCatA, gLtT, gLeT, wFrz, wChain3, wAttr, wMkF, wEnumT, wRevT, wDict0, wDict1, numD3, Nat.reduceAdd, atI0, atI1, atI2, atI3, atI4, ixN51, ixN52, ixN53, List.length_map, wNever, scal, V.int.injEq, V.str.injEq, V.bl.injEq, wSq, wNext, wBreak, wCont, wDrop, wRet, wRetN, wIfS, wAsg, wPar, wLstOwn, wAppend, wSetOwn, wIxOwn, wPeek, wRetOwn, wRetFr, wFor, wB, wNot, wAnd, wOr, wAndV, wOrV, wNotV, wIf, wChain, wNil, wCons, wCB, wTup, wLst, wNoPart, wPart, wSlT, wSlL, wSeq, wRng1, wRng2, wZip, wName, wNilT, wConsT, wTupT, wYes, wNeg, wVar, wC, wOp, wcNil, wcCons, wcOwn, wCall, wCallOwn, slots, cellsOf, OwnArgs, putBack, g2I, g2IC, gLen, gAbs, gGcd, gInt1, gTupleOf, gListOf, gIx, gCatT, gCat, gEq, gNe, gIsN, gNotN, scD, seqD_t, seqD_l, seqD_f, isNonD, List.nodup_cons, List.mem_cons, List.not_mem_nil, or_false, not_false_eq_true, Nat.reduceEqDiff, L3.Keeps, ends, wipeD, List.replicate, List.cons_append, List.nil_append, List.append_nil, List.getElem?_cons_zero, List.getElem?_cons_succ, List.set_cons_zero, List.set_cons_succ, List.getD_cons_zero, List.getD_cons_succ, List.length_cons, List.length_nil, List.nodup_nil, Option.some.injEq, Cell.dat.injEq, Cell.own.injEq, Cont.lst.injEq, D.bl.injEq, D.int.injEq, D.str.injEq, D.tup.injEq, D.lst.injEq, Arg.d.injEq, List.cons.injEq, exists_and_left, exists_and_right, exists_eq_left', exists_eq_left, exists_eq_right, exists_eq_right', exists_eq, exists_eq', and_true, true_and, and_assoc, and_self, exists_const, reduceCtorEq]
  refine ⟨true, .inr ⟨_, _, rfl, hi, hk⟩, ?_⟩
  refine ⟨true, rfl, fun _ => ⟨_, rfl, us, rfl, _, rfl, us', rfl, gEqD_of (n := 5) (m := 5) (pln_sh h1) (pln_sh h3) (by decide) (by decide) ⟨_, rfl, fun z => ⟨_, rfl, ds, rfl, _, rfl, ds', rfl, gEqD_of (n := 5) (m := 5) (pln_sh h2) (pln_sh h4) (by decide) (by decide) ?_⟩, fun z => ?_⟩⟩, fun z => (nomatch z)⟩
  · rw [z, Bool.true_and] at hq
    exact hq
  · rw [z, Bool.false_and] at hq
    exact hq
theorem ok_Book__eq__ (T : Txt K mg) : FnOk P w K mg base (L2.CX P w) 1 T.f_Book__eq__ T.fd_Book__eq__ ["self", "other"] (spOf K 2 (fs_Book__eq__ K T.Z)) := by
  refine def_ok T.F_Book__eq__ sc_Book__eq__ (wb := w_Book__eq__ K T.Z) pure_Book__eq__ ?_
  intro cdv A outer s H E hr tk
  exact ⟨_, (pss_one (ps_ret (pe_and (pe_callB call_isi (by rfl) T.z_isinstance (by decide +kernel) (pa_cons (pv 1) (pa_cons (pe_glob (v := .ref _) rfl T.gc_Book rfl) pa_nil))) (pe_and (pe_cmpR (op_eqD hr.units) (pe_fld (pv 0) rfl) (pe_fld (pv 1) rfl) (nomark _)) (pe_one (pe_cmpR (op_eqD hr.units) (pe_fld (pv 0) rfl) (pe_fld (pv 1) rfl) (nomark _))))))),
    (ds_ret (de_and (de_isiC (de_var 1)) (de_and (de_op o_eqD (de_fld T.it_Book.cl T.na_Book_sorts (de_var 0)) (de_fld T.it_Book.cl T.na_Book_sorts (de_var 1))) (de_op o_eqD (de_fld T.it_Book.cl T.na_Book_kinds (de_var 0)) (de_fld T.it_Book.cl T.na_Book_kinds (de_var 1))))))⟩
abbrev s_fraction : Stmt := topS 7
theorem sc_fraction : FnScope ["top", "bottom", "shared"] ["top", "bottom"] (defScope s_fraction) := ⟨rfl, rfl, rfl, by decide +kernel, rfl, by decide +kernel, by decide +kernel⟩
def w_fraction (K : PySem.W.Frag) : SW := (wSq (wAsg (wCB gGcd (wCons (wVar 0) (wCons (wVar 1) wNil))) (wName 2))
  (wRet (wTup (wCons (wOp gDivW (wVar 0) (wVar 2)) (wCons (wOp gDivW (wVar 1) (wVar 2)) wNil)))))
def fs_fraction (K : PySem.W.Frag) : FS := fun cs q _ => ∃ (t b : Int), cs = [.dat (.int t), .dat (.int b)] ∧ 0 < b ∧ b.natAbs < 2 ^ 900 ∧ q (nf t b) cs
theorem pure_fraction : PureD 2 1 (fs_fraction K) (w_fraction K) := by
  rintro cs q e - ⟨t, b, rfl, h0, h2, hq⟩
  simp only [w_fraction, gIsB, gNotB, D.adr.injEq, Cont.pool.injEq, ixN31, ne_eq, List.map_cons, List.map_nil, wPoolOpen, wPoolClose, wPop0, wPopTo, wListOwn, wRemove, wRaise0, wRaise1, wAugOwn, wEnumL, wTru, wSlA, gCatA, gLtT, gLeT, wFrz, wChain3, wAttr, wMkF, wEnumT, wRevT, wDict0, wDict1, numD3, Nat.reduceAdd, atI0, atI1, atI2, atI3, atI4, ixN51, ixN52, ixN53, List.length_map, wNever, scal, V.int.injEq, V.str.injEq, V.bl.injEq, wSq, wNext, wBreak, wCont, wDrop, wRet, wRetN, wIfS, wAsg, wPar, wLstOwn, wAppend, wSetOwn, wIxOwn, wPeek, wRetOwn, wRetFr, wFor, wB, wNot, wAnd, wOr, wAndV, wOrV, wNotV, wIf, wChain, wNil, wCons, wCB, wTup, wLst, wNoPart, wPart, wSlT, wSlL, wSeq, wRng1, wRng2, wZip, wName, wNilT, wConsT, wTupT, wYes, wNeg, wVar, wC, wOp, wcNil, wcCons, wcOwn, wCall, wCallOwn, slots, cellsOf, OwnArgs, putBack, g2I, g2IC, gLen, gAbs, gGcd, gInt1, gTupleOf, gListOf, gIx, gCatT, gCat, gEq, gNe, gIsN, gNotN, scD, seqD_t, seqD_l, seqD_f, isNonD, List.nodup_cons, List.mem_cons, List.not_mem_nil, or_false, not_false_eq_true, Nat.reduceEqDiff, L3.Keeps, ends, wipeD, List.replicate, List.cons_append, List.nil_append, List.append_nil, List.getElem?_cons_zero, List.getElem?_cons_succ, List.set_cons_zero, List.set_cons_succ, List.getD_cons_zero, List.getD_cons_succ, List.length_cons, List.length_nil, List.nodup_nil, Option.some.injEq, Cell.dat.injEq, Cell.own.injEq, Cont.lst.injEq, D.bl.injEq, D.int.injEq, D.str.injEq, D.tup.injEq, D.lst.injEq, Arg.d.injEq, List.cons.injEq, exists_and_left, exists_and_right, exists_eq_left', exists_eq_left, exists_eq_right, exists_eq_right', exists_eq, exists_eq', and_true, true_and, and_assoc, and_self, exists_const, reduceCtorEq]
  have w := gcd_w (t := t) h0 h2
  exact ⟨w _, w _, by decide, hq⟩
theorem ok_fraction (T : Txt K mg) : FnOk P w K mg base (L2.CX P w) 1 T.f_fraction T.fd_fraction ["top", "bottom"] (spOf K 2 (fs_fraction K)) := by
  refine def_ok T.F_fraction sc_fraction (wb := w_fraction K) pure_fraction ?_
  intro cdv A outer s H E hr tk
  exact ⟨_, (pss_cons (ps_set (i := 2) sc_fraction.nd rfl (by first | exact Or.inl rfl | exact Or.inr rfl) (pe_callBfun cr_gcd (by rfl) T.m_gcd (pa_cons (pv 0) (pa_cons (pv 1) pa_nil))))
      (pss_one (ps_ret (pe_tup (pa_cons (pe_op op_fdivW (pv 0) (pv 2)) (pa_cons (pe_op op_fdivW (pv 1) (pv 2)) pa_nil)))))),
    (ds_seq (ds_asg (de_cb o_gcd (da_cons (de_var 0) (da_cons (de_var 1) da_nil))) (dg_name 2))
      (ds_ret (de_tup (da_cons (de_op o_fdivW (de_var 0) (de_var 2)) (da_cons (de_op o_fdivW (de_var 1) (de_var 2)) da_nil)))))⟩
abbrev s_plus : Stmt := topS 8
theorem sc_plus : FnScope ["one", "other"] ["one", "other"] (defScope s_plus) := ⟨rfl, rfl, rfl, by decide +kernel, rfl, by decide +kernel, by decide +kernel⟩
def w_plus (K : PySem.W.Frag) : SW := (wRet (wCall 2 (fs_fraction K) (wcCons (wOp gAddI (wOp gMulA (wOp gIx (wVar 0) (wC (.int 0))) (wOp gIx (wVar 1) (wC (.int 1)))) (wOp gMulA (wOp gIx (wVar 1) (wC (.int 0))) (wOp gIx (wVar 0) (wC (.int 1))))) (wcCons (wOp gMulA (wOp gIx (wVar 0) (wC (.int 1))) (wOp gIx (wVar 1) (wC (.int 1)))) wcNil))))
def fs_plus (K : PySem.W.Frag) : FS := fun cs q _ => ∃ (a b c d : Int), cs = [.dat (.tup [.int a, .int b]), .dat (.tup [.int c, .int d])] ∧ 0 < b ∧ 0 < d ∧ SmI 400 a b ∧ SmI 400 c d ∧ q (nf (a * d + c * b) (b * d)) cs
theorem pure_plus : PureD 2 0 (fs_plus K) (w_plus K) := by
  rintro cs q e - ⟨a, b, c, d, rfl, b0, d0, ⟨a1, b1⟩, ⟨c1, d1⟩, hq⟩
  simp only [w_plus, fs_fraction, gIsB, gNotB, D.adr.injEq, Cont.pool.injEq, ixN31, ne_eq, List.map_cons, List.map_nil, wPoolOpen, wPoolClose, wPop0, wPopTo, wListOwn, wRemove, wRaise0, wRaise1, wAugOwn, wEnumL, wTru, wSlA, gCatA, gLtT, gLeT, wFrz, wChain3, wAttr, wMkF, wEnumT, wRevT, wDict0, wDict1, numD3, Nat.reduceAdd, atI0, atI1, atI2, atI3, atI4, ixN51, ixN52, ixN53, List.length_map, wNever, scal, V.int.injEq, V.str.injEq, V.bl.injEq, wSq, wNext, wBreak, wCont, wDrop, wRet, wRetN, wIfS, wAsg, wPar, wLstOwn, wAppend, wSetOwn, wIxOwn, wPeek, wRetOwn, wRetFr, wFor, wB, wNot, wAnd, wOr, wAndV, wOrV, wNotV, wIf, wChain, wNil, wCons, wCB, wTup, wLst, wNoPart, wPart, wSlT, wSlL, wSeq, wRng1, wRng2, wZip, wName, wNilT, wConsT, wTupT, wYes, wNeg, wVar, wC, wOp, wcNil, wcCons, wcOwn, wCall, wCallOwn, slots, cellsOf, OwnArgs, putBack, g2I, g2IC, gLen, gAbs, gGcd, gInt1, gTupleOf, gListOf, gIx, gCatT, gCat, gEq, gNe, gIsN, gNotN, scD, seqD_t, seqD_l, seqD_f, isNonD, List.nodup_cons, List.mem_cons, List.not_mem_nil, or_false, not_false_eq_true, Nat.reduceEqDiff, L3.Keeps, ends, wipeD, List.replicate, List.cons_append, List.nil_append, List.append_nil, List.getElem?_cons_zero, List.getElem?_cons_succ, List.set_cons_zero, List.set_cons_succ, List.getD_cons_zero, List.getD_cons_succ, List.length_cons, List.length_nil, List.nodup_nil, Option.some.injEq, Cell.dat.injEq, Cell.own.injEq, Cont.lst.injEq, D.bl.injEq, D.int.injEq, D.str.injEq, D.tup.injEq, D.lst.injEq, Arg.d.injEq, List.cons.injEq, exists_and_left, exists_and_right, exists_eq_left', exists_eq_left, exists_eq_right, exists_eq_right', exists_eq, exists_eq', and_true, true_and, and_assoc, and_self, exists_const, reduceCtorEq]
  have cm : ∀ {x y : Int}, x.natAbs < 2 ^ 400 → y.natAbs < 2 ^ 400 → CMulA x y := fun hx hy => cmul_w hx hy (by decide) (by decide) (by decide)
  exact ⟨cm a1 d1, cm c1 b1, cm b1 d1, Int.mul_pos b0 d0, Nat.lt_of_lt_of_le (mul_abs b1 d1) (pow_le (by decide)), hq⟩
theorem ok_plus (T : Txt K mg) : FnOk P w K mg base (L2.CX P w) 2 T.f_plus T.fd_plus ["one", "other"] (spOf K 2 (fs_plus K)) := by
  refine def_ok T.F_plus sc_plus (wb := w_plus K) pure_plus ?_
  intro cdv A outer s H E hr tk
  exact ⟨_, (pss_one (ps_ret (pe_callS (ok_fraction T) (hr.mono (by decide)) rfl T.g_fraction T.k_fraction T.b_fraction (fun σ => passAt tk σ) (pa_cons (pe_op op_add (pe_op op_mulA (pe_ix ix_seq (pv 0) pe_int (fun _ _ => rfl)) (pe_ix ix_seq (pv 1) pe_int (fun _ _ => rfl))) (pe_op op_mulA (pe_ix ix_seq (pv 1) pe_int (fun _ _ => rfl)) (pe_ix ix_seq (pv 0) pe_int (fun _ _ => rfl)))) (pa_cons (pe_op op_mulA (pe_ix ix_seq (pv 0) pe_int (fun _ _ => rfl)) (pe_ix ix_seq (pv 1) pe_int (fun _ _ => rfl))) pa_nil))))),
    (ds_ret (de_call (n := 2) (fs := fs_fraction K) (dac_cons (de_op o_add (de_op o_mulA (de_op o_ix (de_var 0) de_int) (de_op o_ix (de_var 1) de_int)) (de_op o_mulA (de_op o_ix (de_var 1) de_int) (de_op o_ix (de_var 0) de_int))) (dac_cons (de_op o_mulA (de_op o_ix (de_var 0) de_int) (de_op o_ix (de_var 1) de_int)) dac_nil))))⟩
abbrev s_minus : Stmt := topS 9
theorem sc_minus : FnScope ["one", "other"] ["one", "other"] (defScope s_minus) := ⟨rfl, rfl, rfl, by decide +kernel, rfl, by decide +kernel, by decide +kernel⟩
def w_minus (K : PySem.W.Frag) : SW := (wRet (wCall 2 (fs_fraction K) (wcCons (wOp gSubI (wOp gMulA (wOp gIx (wVar 0) (wC (.int 0))) (wOp gIx (wVar 1) (wC (.int 1)))) (wOp gMulA (wOp gIx (wVar 1) (wC (.int 0))) (wOp gIx (wVar 0) (wC (.int 1))))) (wcCons (wOp gMulA (wOp gIx (wVar 0) (wC (.int 1))) (wOp gIx (wVar 1) (wC (.int 1)))) wcNil))))
def fs_minus (K : PySem.W.Frag) : FS := fun cs q _ => ∃ (a b c d : Int), cs = [.dat (.tup [.int a, .int b]), .dat (.tup [.int c, .int d])] ∧ 0 < b ∧ 0 < d ∧ SmI 400 a b ∧ SmI 400 c d ∧ q (nf (a * d - c * b) (b * d)) cs
theorem pure_minus : PureD 2 0 (fs_minus K) (w_minus K) := by
  rintro cs q e - ⟨a, b, c, d, rfl, b0, d0, ⟨a1, b1⟩, ⟨c1, d1⟩, hq⟩
  simp only [w_minus, fs_fraction, gIsB, gNotB, D.adr.injEq, Cont.pool.injEq, ixN31, ne_eq, List.map_cons, List.map_nil, wPoolOpen, wPoolClose, wPop0, wPopTo, wListOwn, wRemove, wRaise0, wRaise1, wAugOwn, wEnumL, wTru, wSlA, gCatA, gLtT, gLeT, wFrz, wChain3, wAttr, wMkF, wEnumT, wRevT, wDict0, wDict1, numD3, Nat.reduceAdd, atI0, atI1, atI2, atI3, atI4, ixN51, ixN52, ixN53, List.length_map, wNever, scal, V.int.injEq, V.str.injEq, V.bl.injEq, wSq, wNext, wBreak, wCont, wDrop, wRet, wRetN, wIfS, wAsg, wPar, wLstOwn, wAppend, wSetOwn, wIxOwn, wPeek, wRetOwn, wRetFr, wFor, wB, wNot, wAnd, wOr, wAndV, wOrV, wNotV, wIf, wChain, wNil, wCons, wCB, wTup, wLst, wNoPart, wPart, wSlT, wSlL, wSeq, wRng1, wRng2, wZip, wName, wNilT, wConsT, wTupT, wYes, wNeg, wVar, wC, wOp, wcNil, wcCons, wcOwn, wCall, wCallOwn, slots, cellsOf, OwnArgs, putBack, g2I, g2IC, gLen, gAbs, gGcd, gInt1, gTupleOf, gListOf, gIx, gCatT, gCat, gEq, gNe, gIsN, gNotN, scD, seqD_t, seqD_l, seqD_f, isNonD, List.nodup_cons, List.mem_cons, List.not_mem_nil, or_false, not_false_eq_true, Nat.reduceEqDiff, L3.Keeps, ends, wipeD, List.replicate, List.cons_append, List.nil_append, List.append_nil, List.getElem?_cons_zero, List.getElem?_cons_succ, List.set_cons_zero, List.set_cons_succ, List.getD_cons_zero, List.getD_cons_succ, List.length_cons, List.length_nil, List.nodup_nil, Option.some.injEq, Cell.dat.injEq, Cell.own.injEq, Cont.lst.injEq, D.bl.injEq, D.int.injEq, D.str.injEq, D.tup.injEq, D.lst.injEq, Arg.d.injEq, List.cons.injEq, exists_and_left, exists_and_right, exists_eq_left', exists_eq_left, exists_eq_right, exists_eq_right', exists_eq, exists_eq', and_true, true_and, and_assoc, and_self, exists_const, reduceCtorEq]
  have cm : ∀ {x y : Int}, x.natAbs < 2 ^ 400 → y.natAbs < 2 ^ 400 → CMulA x y := fun hx hy => cmul_w hx hy (by decide) (by decide) (by decide)
  exact ⟨cm a1 d1, cm c1 b1, cm b1 d1, Int.mul_pos b0 d0, Nat.lt_of_lt_of_le (mul_abs b1 d1) (pow_le (by decide)), hq⟩
theorem ok_minus (T : Txt K mg) : FnOk P w K mg base (L2.CX P w) 2 T.f_minus T.fd_minus ["one", "other"] (spOf K 2 (fs_minus K)) := by
  refine def_ok T.F_minus sc_minus (wb := w_minus K) pure_minus ?_
  intro cdv A outer s H E hr tk
  exact ⟨_, (pss_one (ps_ret (pe_callS (ok_fraction T) (hr.mono (by decide)) rfl T.g_fraction T.k_fraction T.b_fraction (fun σ => passAt tk σ) (pa_cons (pe_op op_sub (pe_op op_mulA (pe_ix ix_seq (pv 0) pe_int (fun _ _ => rfl)) (pe_ix ix_seq (pv 1) pe_int (fun _ _ => rfl))) (pe_op op_mulA (pe_ix ix_seq (pv 1) pe_int (fun _ _ => rfl)) (pe_ix ix_seq (pv 0) pe_int (fun _ _ => rfl)))) (pa_cons (pe_op op_mulA (pe_ix ix_seq (pv 0) pe_int (fun _ _ => rfl)) (pe_ix ix_seq (pv 1) pe_int (fun _ _ => rfl))) pa_nil))))),
    (ds_ret (de_call (n := 2) (fs := fs_fraction K) (dac_cons (de_op o_sub (de_op o_mulA (de_op o_ix (de_var 0) de_int) (de_op o_ix (de_var 1) de_int)) (de_op o_mulA (de_op o_ix (de_var 1) de_int) (de_op o_ix (de_var 0) de_int))) (dac_cons (de_op o_mulA (de_op o_ix (de_var 0) de_int) (de_op o_ix (de_var 1) de_int)) dac_nil))))⟩
abbrev s_times : Stmt := topS 10
theorem sc_times : FnScope ["number", "part"] ["number", "part"] (defScope s_times) := ⟨rfl, rfl, rfl, by decide +kernel, rfl, by decide +kernel, by decide +kernel⟩
def w_times (K : PySem.W.Frag) : SW := (wRet (wCall 2 (fs_fraction K) (wcCons (wOp gMulA (wVar 0) (wOp gIx (wVar 1) (wC (.int 0)))) (wcCons (wOp gIx (wVar 1) (wC (.int 1))) wcNil))))
def fs_times (K : PySem.W.Frag) : FS := fun cs q _ => ∃ (n c d : Int), cs = [.dat (.int n), .dat (.tup [.int c, .int d])] ∧ 0 < d ∧ SmI 400 c d ∧ n.natAbs < 2 ^ 400 ∧ q (nf (n * c) d) cs
theorem pure_times : PureD 2 0 (fs_times K) (w_times K) := by
  rintro cs q e - ⟨n, c, d, rfl, d0, ⟨c1, d1⟩, hn, hq⟩
  simp only [w_times, fs_fraction, gIsB, gNotB, D.adr.injEq, Cont.pool.injEq, ixN31, ne_eq, List.map_cons, List.map_nil, wPoolOpen, wPoolClose, wPop0, wPopTo, wListOwn, wRemove, wRaise0, wRaise1, wAugOwn, wEnumL, wTru, wSlA, gCatA, gLtT, gLeT, wFrz, wChain3, wAttr, wMkF, wEnumT, wRevT, wDict0, wDict1, numD3, Nat.reduceAdd, atI0, atI1, atI2, atI3, atI4, ixN51, ixN52, ixN53, List.length_map, wNever, scal, V.int.injEq, V.str.injEq, V.bl.injEq, wSq, wNext, wBreak, wCont, wDrop, wRet, wRetN, wIfS, wAsg, wPar, wLstOwn, wAppend, wSetOwn, wIxOwn, wPeek, wRetOwn, wRetFr, wFor, wB, wNot, wAnd, wOr, wAndV, wOrV, wNotV, wIf, wChain, wNil, wCons, wCB, wTup, wLst, wNoPart, wPart, wSlT, wSlL, wSeq, wRng1, wRng2, wZip, wName, wNilT, wConsT, wTupT, wYes, wNeg, wVar, wC, wOp, wcNil, wcCons, wcOwn, wCall, wCallOwn, slots, cellsOf, OwnArgs, putBack, g2I, g2IC, gLen, gAbs, gGcd, gInt1, gTupleOf, gListOf, gIx, gCatT, gCat, gEq, gNe, gIsN, gNotN, scD, seqD_t, seqD_l, seqD_f, isNonD, List.nodup_cons, List.mem_cons, List.not_mem_nil, or_false, not_false_eq_true, Nat.reduceEqDiff, L3.Keeps, ends, wipeD, List.replicate, List.cons_append, List.nil_append, List.append_nil, List.getElem?_cons_zero, List.getElem?_cons_succ, List.set_cons_zero, List.set_cons_succ, List.getD_cons_zero, List.getD_cons_succ, List.length_cons, List.length_nil, List.nodup_nil, Option.some.injEq, Cell.dat.injEq, Cell.own.injEq, Cont.lst.injEq, D.bl.injEq, D.int.injEq, D.str.injEq, D.tup.injEq, D.lst.injEq, Arg.d.injEq, List.cons.injEq, exists_and_left, exists_and_right, exists_eq_left', exists_eq_left, exists_eq_right, exists_eq_right', exists_eq, exists_eq', and_true, true_and, and_assoc, and_self, exists_const, reduceCtorEq]
  exact ⟨cmul_w hn c1 (by decide) (by decide) (by decide), d0, Nat.lt_of_lt_of_le d1 (pow_le (by decide)), hq⟩
theorem ok_times (T : Txt K mg) : FnOk P w K mg base (L2.CX P w) 2 T.f_times T.fd_times ["number", "part"] (spOf K 2 (fs_times K)) := by
  refine def_ok T.F_times sc_times (wb := w_times K) pure_times ?_
  intro cdv A outer s H E hr tk
  exact ⟨_, (pss_one (ps_ret (pe_callS (ok_fraction T) (hr.mono (by decide)) rfl T.g_fraction T.k_fraction T.b_fraction (fun σ => passAt tk σ) (pa_cons (pe_op op_mulA (pv 0) (pe_ix ix_seq (pv 1) pe_int (fun _ _ => rfl))) (pa_cons (pe_ix ix_seq (pv 1) pe_int (fun _ _ => rfl)) pa_nil))))),
    (ds_ret (de_call (n := 2) (fs := fs_fraction K) (dac_cons (de_op o_mulA (de_var 0) (de_op o_ix (de_var 1) de_int)) (dac_cons (de_op o_ix (de_var 1) de_int) dac_nil))))⟩
abbrev s_grains_in_one : Stmt := topS 25
theorem sc_grains_in_one : FnScope ["width", "other"] ["width", "other"] (defScope s_grains_in_one) := ⟨rfl, rfl, rfl, by decide +kernel, rfl, by decide +kernel, by decide +kernel⟩
def w_grains_in_one (K : PySem.W.Frag) : SW := (wRet (wCB gLcm (wCons (wCB gMax2 (wCons (wVar 0) (wCons (wC (.int 1)) wNil))) (wCons (wCB gMax2 (wCons (wVar 1) (wCons (wC (.int 1)) wNil))) wNil))))
def SoB (ss : List So) : Prop := ∀ s ∈ ss, 0 ≤ s.1 ∧ s.1 ≤ 12 ∧ 1 ≤ s.2 ∧ s.2 ≤ 6
/-- a list of thresholds -/
def TsOk (ts : List Th) : Prop := 1 ≤ ts.length ∧ ts.length ≤ 6 ∧ (∀ t ∈ ts, ThOk t) ∧ ts.Pairwise leT
def fs_grains_in_one (K : PySem.W.Frag) : FS := fun cs q _ => ∃ (w o : Int), cs = [.dat (.int w), .dat (.int o)] ∧ 0 ≤ w ∧ w ≤ 12 ∧ 0 ≤ o ∧ o ≤ 12 ∧ ¬ (w = 0 ∧ o = 0) ∧ q (.int (grI w o)) cs
theorem pure_grains_in_one : PureD 2 0 (fs_grains_in_one K) (w_grains_in_one K) := by
  rintro cs q e - ⟨w, o, rfl, w0, w1, o0, o1, h, hq⟩
  have m : ∀ x : Int, 0 ≤ x → x ≤ 12 → (mxI x 1).natAbs < 2 ^ 64 := fun x a b => by
    unfold mxI
    split <;> omega
  have e1 : ((Nat.lcm (mxI w 1).natAbs (mxI o 1).natAbs : Nat) : Int) = grI w o := by
    obtain ⟨w, rfl⟩ := Int.eq_ofNat_of_zero_le w0
    obtain ⟨o, rfl⟩ := Int.eq_ofNat_of_zero_le o0
    exact gr_lcm w (by simp; omega) o (by simp; omega) (by omega)
  simp only [w_grains_in_one, gMax2, gLcm, e1, gIsB, gNotB, D.adr.injEq, Cont.pool.injEq, ixN31, ne_eq, List.map_cons, List.map_nil, wPoolOpen, wPoolClose, wPop0, wPopTo, wListOwn, wRemove, wRaise0, wRaise1, wAugOwn, wEnumL, wTru, wSlA, gCatA, gLtT, gLeT, wFrz, wChain3, wAttr, wMkF, wEnumT, wRevT, wDict0, wDict1, numD3, Nat.reduceAdd, atI0, atI1, atI2, atI3, atI4, ixN51, ixN52, ixN53, List.length_map, wNever, scal, V.int.injEq, V.str.injEq, V.bl.injEq, wSq, wNext, wBreak, wCont, wDrop, wRet, wRetN, wIfS, wAsg, wPar, wLstOwn, wAppend, wSetOwn, wIxOwn, wPeek, wRetOwn, wRetFr, wFor, wB, wNot, wAnd, wOr, wAndV, wOrV, wNotV, wIf, wChain, wNil, wCons, wCB, wTup, wLst, wNoPart, wPart, wSlT, wSlL, wSeq, wRng1, wRng2, wZip, wName, wNilT, wConsT, wTupT, wYes, wNeg, wVar, wC, wOp, wcNil, wcCons, wcOwn, wCall, wCallOwn, slots, cellsOf, OwnArgs, putBack, g2I, g2IC, gLen, gAbs, gGcd, gInt1, gTupleOf, gListOf, gIx, gCatT, gCat, gEq, gNe, gIsN, gNotN, scD, seqD_t, seqD_l, seqD_f, isNonD, List.nodup_cons, List.mem_cons, List.not_mem_nil, or_false, not_false_eq_true, Nat.reduceEqDiff, L3.Keeps, ends, wipeD, List.replicate, List.cons_append, List.nil_append, List.append_nil, List.getElem?_cons_zero, List.getElem?_cons_succ, List.set_cons_zero, List.set_cons_succ, List.getD_cons_zero, List.getD_cons_succ, List.length_cons, List.length_nil, List.nodup_nil, Option.some.injEq, Cell.dat.injEq, Cell.own.injEq, Cont.lst.injEq, D.bl.injEq, D.int.injEq, D.str.injEq, D.tup.injEq, D.lst.injEq, Arg.d.injEq, List.cons.injEq, exists_and_left, exists_and_right, exists_eq_left', exists_eq_left, exists_eq_right, exists_eq_right', exists_eq, exists_eq', and_true, true_and, and_assoc, and_self, exists_const, reduceCtorEq]
  exact ⟨m w w0 w1, m o o0 o1, hq⟩
theorem ok_grains_in_one (T : Txt K mg) : FnOk P w K mg base (L2.CX P w) 1 T.f_grains_in_one T.fd_grains_in_one ["width", "other"] (spOf K 2 (fs_grains_in_one K)) := by
  refine def_ok T.F_grains_in_one sc_grains_in_one (wb := w_grains_in_one K) pure_grains_in_one ?_
  intro cdv A outer s H E hr tk
  exact ⟨_, (pss_one (ps_ret (pe_callBfun cr_lcm (by rfl) T.m_lcm (pa_cons (pe_callB (call_max2 rfl) (by rfl) T.z_max (by decide +kernel) (pa_cons (pv 0) (pa_cons pe_int pa_nil))) (pa_cons (pe_callB (call_max2 rfl) (by rfl) T.z_max (by decide +kernel) (pa_cons (pv 1) (pa_cons pe_int pa_nil))) pa_nil))))),
    (ds_ret (de_cb o_lcm (da_cons (de_cb o_max2 (da_cons (de_var 0) (da_cons de_int da_nil))) (da_cons (de_cb o_max2 (da_cons (de_var 1) (da_cons de_int da_nil))) da_nil))))⟩
abbrev s_in_grains : Stmt := topS 26
theorem sc_in_grains : FnScope ["thresholds", "many", "top", "bottom"] ["thresholds", "many"] (defScope s_in_grains) := ⟨rfl, rfl, rfl, by decide +kernel, rfl, by decide +kernel, by decide +kernel⟩
def c1_in_grains (K : PySem.W.Frag) : EW := wLc (wSeq (wVar 0)) (wTupT 2 (wConsT (wName 2) (wConsT (wName 3) wNilT))) wYes (wOp gDivW (wOp gSubI (wOp gAddI (wOp gMulA (wVar 2) (wVar 1)) (wVar 3)) (wC (.int 1))) (wVar 3)) [2, 3]
def w_in_grains (K : PySem.W.Frag) : SW := (wRet (c1_in_grains K))
def fs_in_grains (K : PySem.W.Frag) : FS := fun cs q _ => ∃ (ts : List Th) (g : Int), cs = [.dat (stD ts), .dat (.int g)] ∧ ts.length ≤ 6 ∧ (∀ t ∈ ts, ThOk t) ∧ 1 ≤ g ∧ g ≤ 132 ∧ q (.lst ((ts.map (stpI g)).map D.int)) cs
theorem c1_in_grains_ok {ts : List Th} {g : Int} {c2 c3 : Cell} {q : D → List Cell → Prop} {e : Xn → List Cell → Prop} (hl : ts.length ≤ 6) (ht : ∀ t ∈ ts, ThOk t) (g1 : 1 ≤ g) (g2 : g ≤ 132)
    (hq : q (.lst ((ts.map (stpI g)).map D.int)) [.dat (stD ts), .dat (.int g), .any, .any]) : c1_in_grains K [.dat (stD ts), .dat (.int g), c2, c3] q e := by
  unfold c1_in_grains wLc
  have e1 : (ts.map (stpI g)).map D.int = (ts.map thD).map fun d => match d with | .tup [.int a, .int b] => .int ((a * g + b - 1) / b) | _ => .non := by
    rw [List.map_map, List.map_map]
    rfl
  rw [e1] at hq
  refine ⟨_, rfl, _, rfl, lc_fm (ds := ts.map thD) (fun d => match d with | .tup [.int a, .int b] => .int ((a * g + b - 1) / b) | _ => .non) (fun _ => true) (by rw [List.length_map]; omega) (fun d hm k1 k2 h1 _ => ?_) (by rw [filter_true]; exact hq)⟩
  obtain ⟨t, mt, rfl⟩ := List.mem_map.mp hm
  have b := (ht t mt).b
  simp only [thD, gIsB, gNotB, D.adr.injEq, Cont.pool.injEq, ixN31, ne_eq, List.map_cons, List.map_nil, wPoolOpen, wPoolClose, wPop0, wPopTo, wListOwn, wRemove, wRaise0, wRaise1, wAugOwn, wEnumL, wTru, wSlA, gCatA, gLtT, gLeT, wFrz, wChain3, wAttr, wMkF, wEnumT, wRevT, wDict0, wDict1, numD3, Nat.reduceAdd, atI0, atI1, atI2, atI3, atI4, ixN51, ixN52, ixN53, List.length_map, wNever, scal, V.int.injEq, V.str.injEq, V.bl.injEq, wSq, wNext, wBreak, wCont, wDrop, wRet, wRetN, wIfS, wAsg, wPar, wLstOwn, wAppend, wSetOwn, wIxOwn, wPeek, wRetOwn, wRetFr, wFor, wB, wNot, wAnd, wOr, wAndV, wOrV, wNotV, wIf, wChain, wNil, wCons, wCB, wTup, wLst, wNoPart, wPart, wSlT, wSlL, wSeq, wRng1, wRng2, wZip, wName, wNilT, wConsT, wTupT, wYes, wNeg, wVar, wC, wOp, wcNil, wcCons, wcOwn, wCall, wCallOwn, slots, cellsOf, OwnArgs, putBack, g2I, g2IC, gLen, gAbs, gGcd, gInt1, gTupleOf, gListOf, gIx, gCatT, gCat, gEq, gNe, gIsN, gNotN, scD, seqD_t, seqD_l, seqD_f, isNonD, List.nodup_cons, List.mem_cons, List.not_mem_nil, or_false, not_false_eq_true, Nat.reduceEqDiff, L3.Keeps, ends, wipeD, List.replicate, List.cons_append, List.nil_append, List.append_nil, List.getElem?_cons_zero, List.getElem?_cons_succ, List.set_cons_zero, List.set_cons_succ, List.getD_cons_zero, List.getD_cons_succ, List.length_cons, List.length_nil, List.nodup_nil, Option.some.injEq, Cell.dat.injEq, Cell.own.injEq, Cont.lst.injEq, D.bl.injEq, D.int.injEq, D.str.injEq, D.tup.injEq, D.lst.injEq, Arg.d.injEq, List.cons.injEq, exists_and_left, exists_and_right, exists_eq_left', exists_eq_left, exists_eq_right, exists_eq_right', exists_eq, exists_eq', and_true, true_and, and_assoc, and_self, exists_const, reduceCtorEq]
  exact ⟨fun _ => ⟨cmul_r (by omega) (by omega), divw (by omega) (by omega), h1 rfl _ rfl⟩, fun z => z.elim⟩
theorem pure_in_grains : PureD 2 2 (fs_in_grains K) (w_in_grains K) := by
  rintro cs q e - ⟨ts, g, rfl, hl, ht, g1, g2, hq⟩
  simp only [w_in_grains, gIsB, gNotB, D.adr.injEq, Cont.pool.injEq, ixN31, ne_eq, List.map_cons, List.map_nil, wPoolOpen, wPoolClose, wPop0, wPopTo, wListOwn, wRemove, wRaise0, wRaise1, wAugOwn, wEnumL, wTru, wSlA, gCatA, gLtT, gLeT, wFrz, wChain3, wAttr, wMkF, wEnumT, wRevT, wDict0, wDict1, numD3, Nat.reduceAdd, atI0, atI1, atI2, atI3, atI4, ixN51, ixN52, ixN53, List.length_map, wNever, scal, V.int.injEq, V.str.injEq, V.bl.injEq, wSq, wNext, wBreak, wCont, wDrop, wRet, wRetN, wIfS, wAsg, wPar, wLstOwn, wAppend, wSetOwn, wIxOwn, wPeek, wRetOwn, wRetFr, wFor, wB, wNot, wAnd, wOr, wAndV, wOrV, wNotV, wIf, wChain, wNil, wCons, wCB, wTup, wLst, wNoPart, wPart, wSlT, wSlL, wSeq, wRng1, wRng2, wZip, wName, wNilT, wConsT, wTupT, wYes, wNeg, wVar, wC, wOp, wcNil, wcCons, wcOwn, wCall, wCallOwn, slots, cellsOf, OwnArgs, putBack, g2I, g2IC, gLen, gAbs, gGcd, gInt1, gTupleOf, gListOf, gIx, gCatT, gCat, gEq, gNe, gIsN, gNotN, scD, seqD_t, seqD_l, seqD_f, isNonD, List.nodup_cons, List.mem_cons, List.not_mem_nil, or_false, not_false_eq_true, Nat.reduceEqDiff, L3.Keeps, ends, wipeD, List.replicate, List.cons_append, List.nil_append, List.append_nil, List.getElem?_cons_zero, List.getElem?_cons_succ, List.set_cons_zero, List.set_cons_succ, List.getD_cons_zero, List.getD_cons_succ, List.length_cons, List.length_nil, List.nodup_nil, Option.some.injEq, Cell.dat.injEq, Cell.own.injEq, Cont.lst.injEq, D.bl.injEq, D.int.injEq, D.str.injEq, D.tup.injEq, D.lst.injEq, Arg.d.injEq, List.cons.injEq, exists_and_left, exists_and_right, exists_eq_left', exists_eq_left, exists_eq_right, exists_eq_right', exists_eq, exists_eq', and_true, true_and, and_assoc, and_self, exists_const, reduceCtorEq]
  refine c1_in_grains_ok hl ht g1 g2 ?_
  simp only [gIsB, gNotB, D.adr.injEq, Cont.pool.injEq, ixN31, ne_eq, List.map_cons, List.map_nil, wPoolOpen, wPoolClose, wPop0, wPopTo, wListOwn, wRemove, wRaise0, wRaise1, wAugOwn, wEnumL, wTru, wSlA, gCatA, gLtT, gLeT, wFrz, wChain3, wAttr, wMkF, wEnumT, wRevT, wDict0, wDict1, numD3, Nat.reduceAdd, atI0, atI1, atI2, atI3, atI4, ixN51, ixN52, ixN53, List.length_map, wNever, scal, V.int.injEq, V.str.injEq, V.bl.injEq, wSq, wNext, wBreak, wCont, wDrop, wRet, wRetN, wIfS, wAsg, wPar, wLstOwn, wAppend, wSetOwn, wIxOwn, wPeek, wRetOwn, wRetFr, wFor, wB, wNot, wAnd, wOr, wAndV, wOrV, wNotV, wIf, wChain, wNil, wCons, wCB, wTup, wLst, wNoPart, wPart, wSlT, wSlL, wSeq, wRng1, wRng2, wZip, wName, wNilT, wConsT, wTupT, wYes, wNeg, wVar, wC, wOp, wcNil, wcCons, wcOwn, wCall, wCallOwn, slots, cellsOf, OwnArgs, putBack, g2I, g2IC, gLen, gAbs, gGcd, gInt1, gTupleOf, gListOf, gIx, gCatT, gCat, gEq, gNe, gIsN, gNotN, scD, seqD_t, seqD_l, seqD_f, isNonD, List.nodup_cons, List.mem_cons, List.not_mem_nil, or_false, not_false_eq_true, Nat.reduceEqDiff, L3.Keeps, ends, wipeD, List.replicate, List.cons_append, List.nil_append, List.append_nil, List.getElem?_cons_zero, List.getElem?_cons_succ, List.set_cons_zero, List.set_cons_succ, List.getD_cons_zero, List.getD_cons_succ, List.length_cons, List.length_nil, List.nodup_nil, Option.some.injEq, Cell.dat.injEq, Cell.own.injEq, Cont.lst.injEq, D.bl.injEq, D.int.injEq, D.str.injEq, D.tup.injEq, D.lst.injEq, Arg.d.injEq, List.cons.injEq, exists_and_left, exists_and_right, exists_eq_left', exists_eq_left, exists_eq_right, exists_eq_right', exists_eq, exists_eq', and_true, true_and, and_assoc, and_self, exists_const, reduceCtorEq]
  exact hq
theorem ok_in_grains (T : Txt K mg) : FnOk P w K mg base (L2.CX P w) 1 T.f_in_grains T.fd_in_grains ["thresholds", "many"] (spOf K 2 (fs_in_grains K)) := by
  refine def_ok T.F_in_grains sc_in_grains (wb := w_in_grains K) pure_in_grains ?_
  intro cdv A outer s H E hr tk
  exact ⟨_, (pss_one (ps_ret (pe_lc (own := [("top", 2), ("bottom", 3)]) (g := (gTup K 2 (gCons (gName 2) (gCons (gName 3) gNil)))) (tt := tYes) (te := (tOp rDivW (tOp rSubI (tOp rAddI (tOp rMulA (tVar 2) (tVar 1)) (tVar 3)) (tC (.int 1))) (tVar 3))) rfl sc_in_grains.nd (pi_seq (pv 0)) (blkOk_by (N := ["thresholds", "many", "top", "bottom"]) (sc := defScope s_in_grains) (by decide +kernel)) (fun _ _ _ _ _ => (pg_tup (by rfl) (pgs_cons (pg_name (i := 2) sc_in_grains.nd rfl (by first | exact Or.inl rfl | exact Or.inr rfl)) (pgs_cons (pg_name (i := 3) sc_in_grains.nd rfl (by first | exact Or.inl rfl | exact Or.inr rfl)) pgs_nil)))) (fun _ _ _ _ _ => pts_nil) (fun _ _ _ _ _ => (pe_op op_fdivW (pe_op op_sub (pe_op op_add (pe_op op_mulA (pv 2) (pv 1)) (pv 3)) pe_int) (pv 3)))))),
    (ds_ret (de_lc (vs := [2, 3]) (wI := (wSeq (wVar 0))) (wg := (wTupT 2 (wConsT (wName 2) (wConsT (wName 3) wNilT)))) (wt := wYes) (we := (wOp gDivW (wOp gSubI (wOp gAddI (wOp gMulA (wVar 2) (wVar 1)) (wVar 3)) (wC (.int 1))) (wVar 3))) (di_seq (de_var 0)) (dg_tup (n := 2) (dgs_cons (dg_name 2) (dgs_cons (dg_name 3) dgs_nil))) dt_yes (de_op o_fdivW (de_op o_sub (de_op o_add (de_op o_mulA (de_var 2) (de_var 1)) (de_var 3)) de_int) (de_var 3)) (by decide)))⟩
abbrev s_rounded_up : Stmt := topS 27
theorem sc_rounded_up : FnScope ["thresholds", "many", "top"] ["thresholds", "many"] (defScope s_rounded_up) := ⟨rfl, rfl, rfl, by decide +kernel, rfl, by decide +kernel, by decide +kernel⟩
def c1_rounded_up (K : PySem.W.Frag) : EW := wLc (wSeq (wCall 2 (fs_in_grains K) (wcCons (wVar 0) (wcCons (wVar 1) wcNil)))) (wName 2) wYes (wCall 2 (fs_fraction K) (wcCons (wVar 2) (wcCons (wVar 1) wcNil))) [2]
def w_rounded_up (K : PySem.W.Frag) : SW := (wRet (wCB gTupleOf (wCons (c1_rounded_up K) wNil)))
def nfs (g : Int) (xs : List Int) : List D := xs.map fun x => nf x g
def fs_rounded_up (K : PySem.W.Frag) : FS := fun cs q _ => ∃ (ts : List Th) (g : Int), cs = [.dat (stD ts), .dat (.int g)] ∧ ts.length ≤ 6 ∧ (∀ t ∈ ts, ThOk t) ∧ 1 ≤ g ∧ g ≤ 132 ∧ q (.tup (nfs g (ts.map (stpI g)))) cs
theorem c1_rounded_up_ok {ts : List Th} {g : Int} {c2 : Cell} {q : D → List Cell → Prop} {e : Xn → List Cell → Prop} (hl : ts.length ≤ 6) (ht : ∀ t ∈ ts, ThOk t) (g1 : 1 ≤ g) (g2 : g ≤ 132)
    (hq : q (.lst (nfs g (ts.map (stpI g)))) [.dat (stD ts), .dat (.int g), .any]) : c1_rounded_up K [.dat (stD ts), .dat (.int g), c2] q e := by
  have e1 : nfs g (ts.map (stpI g)) = ((ts.map (stpI g)).map D.int).map fun d => match d with | .int x => nf x g | _ => .non := by
    unfold nfs
    rw [List.map_map, List.map_map, List.map_map]
    rfl
  rw [e1] at hq
  unfold c1_rounded_up wLc
  refine ⟨_, rfl, _, rfl, rfl, .nil, trivial, ts, g, rfl, hl, ht, g1, g2, _, rfl, ?_⟩
  simp only [putBack, cellsOf]
  refine lc_fm (ds := (ts.map (stpI g)).map D.int) (fun d => match d with | .int x => nf x g | _ => .non) (fun _ => true) (by rw [List.length_map, List.length_map]; omega) (fun d hm k1 k2 h1 _ => ?_) (by rw [filter_true]; exact hq)
  obtain ⟨x, mx, rfl⟩ := List.mem_map.mp hm
  simp only [fs_fraction, gIsB, gNotB, D.adr.injEq, Cont.pool.injEq, ixN31, ne_eq, List.map_cons, List.map_nil, wPoolOpen, wPoolClose, wPop0, wPopTo, wListOwn, wRemove, wRaise0, wRaise1, wAugOwn, wEnumL, wTru, wSlA, gCatA, gLtT, gLeT, wFrz, wChain3, wAttr, wMkF, wEnumT, wRevT, wDict0, wDict1, numD3, Nat.reduceAdd, atI0, atI1, atI2, atI3, atI4, ixN51, ixN52, ixN53, List.length_map, wNever, scal, V.int.injEq, V.str.injEq, V.bl.injEq, wSq, wNext, wBreak, wCont, wDrop, wRet, wRetN, wIfS, wAsg, wPar, wLstOwn, wAppend, wSetOwn, wIxOwn, wPeek, wRetOwn, wRetFr, wFor, wB, wNot, wAnd, wOr, wAndV, wOrV, wNotV, wIf, wChain, wNil, wCons, wCB, wTup, wLst, wNoPart, wPart, wSlT, wSlL, wSeq, wRng1, wRng2, wZip, wName, wNilT, wConsT, wTupT, wYes, wNeg, wVar, wC, wOp, wcNil, wcCons, wcOwn, wCall, wCallOwn, slots, cellsOf, OwnArgs, putBack, g2I, g2IC, gLen, gAbs, gGcd, gInt1, gTupleOf, gListOf, gIx, gCatT, gCat, gEq, gNe, gIsN, gNotN, scD, seqD_t, seqD_l, seqD_f, isNonD, List.nodup_cons, List.mem_cons, List.not_mem_nil, or_false, not_false_eq_true, Nat.reduceEqDiff, L3.Keeps, ends, wipeD, List.replicate, List.cons_append, List.nil_append, List.append_nil, List.getElem?_cons_zero, List.getElem?_cons_succ, List.set_cons_zero, List.set_cons_succ, List.getD_cons_zero, List.getD_cons_succ, List.length_cons, List.length_nil, List.nodup_nil, Option.some.injEq, Cell.dat.injEq, Cell.own.injEq, Cont.lst.injEq, D.bl.injEq, D.int.injEq, D.str.injEq, D.tup.injEq, D.lst.injEq, Arg.d.injEq, List.cons.injEq, exists_and_left, exists_and_right, exists_eq_left', exists_eq_left, exists_eq_right, exists_eq_right', exists_eq, exists_eq', and_true, true_and, and_assoc, and_self, exists_const, reduceCtorEq]
  exact ⟨fun _ => ⟨by omega, Nat.lt_of_lt_of_le (show g.natAbs < 2 ^ 8 by omega) (pow_le (by decide)), h1 rfl _ rfl⟩, fun z => z.elim⟩
theorem pure_rounded_up : PureD 2 1 (fs_rounded_up K) (w_rounded_up K) := by
  rintro cs q e - ⟨ts, g, rfl, hl, ht, g1, g2, hq⟩
  simp only [w_rounded_up, gIsB, gNotB, D.adr.injEq, Cont.pool.injEq, ixN31, ne_eq, List.map_cons, List.map_nil, wPoolOpen, wPoolClose, wPop0, wPopTo, wListOwn, wRemove, wRaise0, wRaise1, wAugOwn, wEnumL, wTru, wSlA, gCatA, gLtT, gLeT, wFrz, wChain3, wAttr, wMkF, wEnumT, wRevT, wDict0, wDict1, numD3, Nat.reduceAdd, atI0, atI1, atI2, atI3, atI4, ixN51, ixN52, ixN53, List.length_map, wNever, scal, V.int.injEq, V.str.injEq, V.bl.injEq, wSq, wNext, wBreak, wCont, wDrop, wRet, wRetN, wIfS, wAsg, wPar, wLstOwn, wAppend, wSetOwn, wIxOwn, wPeek, wRetOwn, wRetFr, wFor, wB, wNot, wAnd, wOr, wAndV, wOrV, wNotV, wIf, wChain, wNil, wCons, wCB, wTup, wLst, wNoPart, wPart, wSlT, wSlL, wSeq, wRng1, wRng2, wZip, wName, wNilT, wConsT, wTupT, wYes, wNeg, wVar, wC, wOp, wcNil, wcCons, wcOwn, wCall, wCallOwn, slots, cellsOf, OwnArgs, putBack, g2I, g2IC, gLen, gAbs, gGcd, gInt1, gTupleOf, gListOf, gIx, gCatT, gCat, gEq, gNe, gIsN, gNotN, scD, seqD_t, seqD_l, seqD_f, isNonD, List.nodup_cons, List.mem_cons, List.not_mem_nil, or_false, not_false_eq_true, Nat.reduceEqDiff, L3.Keeps, ends, wipeD, List.replicate, List.cons_append, List.nil_append, List.append_nil, List.getElem?_cons_zero, List.getElem?_cons_succ, List.set_cons_zero, List.set_cons_succ, List.getD_cons_zero, List.getD_cons_succ, List.length_cons, List.length_nil, List.nodup_nil, Option.some.injEq, Cell.dat.injEq, Cell.own.injEq, Cont.lst.injEq, D.bl.injEq, D.int.injEq, D.str.injEq, D.tup.injEq, D.lst.injEq, Arg.d.injEq, List.cons.injEq, exists_and_left, exists_and_right, exists_eq_left', exists_eq_left, exists_eq_right, exists_eq_right', exists_eq, exists_eq', and_true, true_and, and_assoc, and_self, exists_const, reduceCtorEq]
  refine c1_rounded_up_ok hl ht g1 g2 ?_
  simp only [seqD_l, gIsB, gNotB, D.adr.injEq, Cont.pool.injEq, ixN31, ne_eq, List.map_cons, List.map_nil, wPoolOpen, wPoolClose, wPop0, wPopTo, wListOwn, wRemove, wRaise0, wRaise1, wAugOwn, wEnumL, wTru, wSlA, gCatA, gLtT, gLeT, wFrz, wChain3, wAttr, wMkF, wEnumT, wRevT, wDict0, wDict1, numD3, Nat.reduceAdd, atI0, atI1, atI2, atI3, atI4, ixN51, ixN52, ixN53, List.length_map, wNever, scal, V.int.injEq, V.str.injEq, V.bl.injEq, wSq, wNext, wBreak, wCont, wDrop, wRet, wRetN, wIfS, wAsg, wPar, wLstOwn, wAppend, wSetOwn, wIxOwn, wPeek, wRetOwn, wRetFr, wFor, wB, wNot, wAnd, wOr, wAndV, wOrV, wNotV, wIf, wChain, wNil, wCons, wCB, wTup, wLst, wNoPart, wPart, wSlT, wSlL, wSeq, wRng1, wRng2, wZip, wName, wNilT, wConsT, wTupT, wYes, wNeg, wVar, wC, wOp, wcNil, wcCons, wcOwn, wCall, wCallOwn, slots, cellsOf, OwnArgs, putBack, g2I, g2IC, gLen, gAbs, gGcd, gInt1, gTupleOf, gListOf, gIx, gCatT, gCat, gEq, gNe, gIsN, gNotN, scD, seqD_t, seqD_l, seqD_f, isNonD, List.nodup_cons, List.mem_cons, List.not_mem_nil, or_false, not_false_eq_true, Nat.reduceEqDiff, L3.Keeps, ends, wipeD, List.replicate, List.cons_append, List.nil_append, List.append_nil, List.getElem?_cons_zero, List.getElem?_cons_succ, List.set_cons_zero, List.set_cons_succ, List.getD_cons_zero, List.getD_cons_succ, List.length_cons, List.length_nil, List.nodup_nil, Option.some.injEq, Cell.dat.injEq, Cell.own.injEq, Cont.lst.injEq, D.bl.injEq, D.int.injEq, D.str.injEq, D.tup.injEq, D.lst.injEq, Arg.d.injEq, List.cons.injEq, exists_and_left, exists_and_right, exists_eq_left', exists_eq_left, exists_eq_right, exists_eq_right', exists_eq, exists_eq', and_true, true_and, and_assoc, and_self, exists_const, reduceCtorEq]
  exact hq
theorem ok_rounded_up (T : Txt K mg) : FnOk P w K mg base (L2.CX P w) 2 T.f_rounded_up T.fd_rounded_up ["thresholds", "many"] (spOf K 2 (fs_rounded_up K)) := by
  refine def_ok T.F_rounded_up sc_rounded_up (wb := w_rounded_up K) pure_rounded_up ?_
  intro cdv A outer s H E hr tk
  exact ⟨_, (pss_one (ps_ret (pe_callTy call_tuple_of (by rfl) T.z_tuple (by decide +kernel) (pa_cons (pe_lc (own := [("top", 2)]) (g := (gName 2)) (tt := tYes) (te := (tCallS (spOf K 2 (fs_fraction K)) (L2.WE W0) (tCons (tVar 2) (tCons (tVar 1) tNil)))) rfl sc_rounded_up.nd (pi_seq (pe_callS (ok_in_grains T) (hr.mono (by decide)) rfl T.g_in_grains T.k_in_grains T.b_in_grains (fun σ => passAt tk σ) (pa_cons (pv 0) (pa_cons (pv 1) pa_nil)))) (blkOk_by (N := ["thresholds", "many", "top"]) (sc := defScope s_rounded_up) (by decide +kernel)) (fun _ _ _ _ _ => (pg_name (i := 2) sc_rounded_up.nd rfl (by first | exact Or.inl rfl | exact Or.inr rfl))) (fun _ _ _ _ _ => pts_nil) (fun _ _ _ _ _ => (pe_callS (ok_fraction T) (hr.mono (by decide)) rfl T.g_fraction T.k_fraction T.b_fraction (fun σ => passAt L2.takes0 σ) (pa_cons (pv 2) (pa_cons (pv 1) pa_nil))))) pa_nil)))),
    (ds_ret (de_cb o_tupleOf (da_cons (de_lc (vs := [2]) (wI := (wSeq (wCall 2 (fs_in_grains K) (wcCons (wVar 0) (wcCons (wVar 1) wcNil))))) (wg := (wName 2)) (wt := wYes) (we := (wCall 2 (fs_fraction K) (wcCons (wVar 2) (wcCons (wVar 1) wcNil)))) (di_seq (de_call (n := 2) (fs := fs_in_grains K) (dac_cons (de_var 0) (dac_cons (de_var 1) dac_nil)))) (dg_name 2) dt_yes (de_call (n := 2) (fs := fs_fraction K) (dac_cons (de_var 2) (dac_cons (de_var 1) dac_nil))) (by decide)) da_nil)))⟩
abbrev s_is_sort_number : Stmt := topS 39
theorem sc_is_sort_number : FnScope ["book", "thing"] ["book", "thing"] (defScope s_is_sort_number) := ⟨rfl, rfl, rfl, by decide +kernel, rfl, by decide +kernel, by decide +kernel⟩
def w_is_sort_number (K : PySem.W.Frag) (Z : CT) : SW := (wRet (wCall 3 (fs_is_between K) (wcCons (wC (.int 0)) (wcCons (wOp gSubI (wCB gLen (wCons (wAttr Z.C_Book "sorts" (wVar 0)) wNil)) (wC (.int 1))) (wcCons (wVar 1) wcNil)))))
def fs_is_sort_number (K : PySem.W.Frag) (Z : CT) : FS := fun cs q _ => ∃ (ss : List So) (ks d : D), cs = [.dat (bookI Z (sosD ss) ks), .dat d] ∧ OkD K d ∧ q (.bl (isBetw 0 ((ss.length : Int) - 1) d)) cs
theorem pure_is_sort_number {Z : CT} : PureD 2 0 (fs_is_sort_number K Z) (w_is_sort_number K Z) := by
  rintro cs q e - ⟨ss, ks, d, rfl, hd, hq⟩
  simp only [w_is_sort_number, fs_is_between, hd, gIsB, gNotB, D.adr.injEq, Cont.pool.injEq, ixN31, ne_eq, List.map_cons, List.map_nil, wPoolOpen, wPoolClose, wPop0, wPopTo, wListOwn, wRemove, wRaise0, wRaise1, wAugOwn, wEnumL, wTru, wSlA, gCatA, gLtT, gLeT, wFrz, wChain3, wAttr, wMkF, wEnumT, wRevT, wDict0, wDict1, numD3, Nat.reduceAdd, atI0, atI1, atI2, atI3, atI4, ixN51, ixN52, ixN53, List.length_map, wNever, scal, V.int.injEq, V.str.injEq, V.bl.injEq, wSq, wNext, wBreak, wCont, wDrop, wRet, wRetN, wIfS, wAsg, wPar, wLstOwn, wAppend, wSetOwn, wIxOwn, wPeek, wRetOwn, wRetFr, wFor, wB, wNot, wAnd, wOr, wAndV, wOrV, wNotV, wIf, wChain, wNil, wCons, wCB, wTup, wLst, wNoPart, wPart, wSlT, wSlL, wSeq, wRng1, wRng2, wZip, wName, wNilT, wConsT, wTupT, wYes, wNeg, wVar, wC, wOp, wcNil, wcCons, wcOwn, wCall, wCallOwn, slots, cellsOf, OwnArgs, putBack, g2I, g2IC, gLen, gAbs, gGcd, gInt1, gTupleOf, gListOf, gIx, gCatT, gCat, gEq, gNe, gIsN, gNotN, scD, seqD_t, seqD_l, seqD_f, isNonD, List.nodup_cons, List.mem_cons, List.not_mem_nil, or_false, not_false_eq_true, Nat.reduceEqDiff, L3.Keeps, ends, wipeD, List.replicate, List.cons_append, List.nil_append, List.append_nil, List.getElem?_cons_zero, List.getElem?_cons_succ, List.set_cons_zero, List.set_cons_succ, List.getD_cons_zero, List.getD_cons_succ, List.length_cons, List.length_nil, List.nodup_nil, Option.some.injEq, Cell.dat.injEq, Cell.own.injEq, Cont.lst.injEq, D.bl.injEq, D.int.injEq, D.str.injEq, D.tup.injEq, D.lst.injEq, Arg.d.injEq, List.cons.injEq, exists_and_left, exists_and_right, exists_eq_left', exists_eq_left, exists_eq_right, exists_eq_right', exists_eq, exists_eq', and_true, true_and, and_assoc, and_self, exists_const, reduceCtorEq]
  exact ⟨_, rfl, _, rfl, _, rfl, by rw [List.length_map]; exact hq⟩
theorem ok_is_sort_number (T : Txt K mg) : FnOk P w K mg base (L2.CX P w) 3 T.f_is_sort_number T.fd_is_sort_number ["book", "thing"] (spOf K 2 (fs_is_sort_number K T.Z)) := by
  refine def_ok T.F_is_sort_number sc_is_sort_number (wb := w_is_sort_number K T.Z) pure_is_sort_number ?_
  intro cdv A outer s H E hr tk
  exact ⟨_, (pss_one (ps_ret (pe_callS (ok_is_between T) (hr.mono (by decide)) rfl T.g_is_between T.k_is_between T.b_is_between (fun σ => passAt tk σ) (pa_cons pe_int (pa_cons (pe_op op_sub (pe_callB call_len_seq (by rfl) T.z_len (by decide +kernel) (pa_cons (pe_fld (pv 0) rfl) pa_nil)) pe_int) (pa_cons (pv 1) pa_nil)))))),
    (ds_ret (de_call (n := 3) (fs := fs_is_between K) (dac_cons de_int (dac_cons (de_op o_sub (de_cb o_len (da_cons (de_fld T.it_Book.cl T.na_Book_sorts (de_var 0)) da_nil)) de_int) (dac_cons (de_var 1) dac_nil)))))⟩
abbrev s_check_pair : Stmt := topS 40
theorem sc_check_pair : FnScope ["book", "i", "j"] ["book", "i", "j"] (defScope s_check_pair) := ⟨rfl, rfl, rfl, by decide +kernel, rfl, by decide +kernel, by decide +kernel⟩
def w_check_pair (K : PySem.W.Frag) (Z : CT) : SW := (wSq (wIfS (wOr (wNot (wB (wCall 2 (fs_is_sort_number K Z) (wcCons (wVar 0) (wcCons (wVar 1) wcNil))))) (wNot (wB (wCall 2 (fs_is_sort_number K Z) (wcCons (wVar 0) (wcCons (wVar 2) wcNil)))))) (wRaise0 Z.C_NoSort) wNext)
  (wIfS (wAnd (wB (wOp gEq (wVar 1) (wVar 2))) (wB (wOp gEq (wOp gIx (wOp gIx (wAttr Z.C_Book "sorts" (wVar 0)) (wVar 1)) (wC (.int 0))) (wC (.int 0))))) (wRaise0 Z.C_NoSort) wNext))
/-- whether these are two sorts, not the sea with itself -/
def isPair (ss : List So) (x y : D) : Bool := match x, y with
  | .int i, .int j => decide (0 ≤ i) && decide (i < ss.length) && decide (0 ≤ j) && decide (j < ss.length) && !(decide (i = j) && (match ss[i.toNat]? with | some s => decide (s.1 = 0) | none => false))
  | _, _ => false
def fs_check_pair (K : PySem.W.Frag) (Z : CT) : FS := fun cs q e => ∃ (ss : List So) (ks x y : D), cs = [.dat (bookI Z (sosD ss) ks), .dat x, .dat y] ∧ OkD K x ∧ OkD K y ∧ (isPair ss x y = true → q .non cs) ∧ (isPair ss x y = false → e ⟨Z.C_NoSort, []⟩ cs)
theorem pure_check_pair {Z : CT} : PureD 3 0 (fs_check_pair K Z) (w_check_pair K Z) := by
  rintro cs q e - ⟨ss, ks, x, y, rfl, hx, hy, h1, h2⟩
  cases g1 : isBetw 0 ((ss.length : Int) - 1) x with
  | false =>
    have n : isPair ss x y = false := by
      cases x with
      | int i =>
        cases y with
        | int j =>
          simp only [isBetw, Bool.and_eq_false_iff, decide_eq_false_iff_not] at g1
          simp only [isPair]
          by_cases a : 0 ≤ i <;> by_cases b : i < ss.length <;> simp [a, b] <;> omega
        | _ => rfl
      | _ => rfl
    simp only [w_check_pair, fs_is_sort_number, gIsB, gNotB, D.adr.injEq, Cont.pool.injEq, ixN31, ne_eq, List.map_cons, List.map_nil, wPoolOpen, wPoolClose, wPop0, wPopTo, wListOwn, wRemove, wRaise0, wRaise1, wAugOwn, wEnumL, wTru, wSlA, gCatA, gLtT, gLeT, wFrz, wChain3, wAttr, wMkF, wEnumT, wRevT, wDict0, wDict1, numD3, Nat.reduceAdd, atI0, atI1, atI2, atI3, atI4, ixN51, ixN52, ixN53, List.length_map, wNever, scal, V.int.injEq, V.str.injEq, V.bl.injEq, wSq, wNext, wBreak, wCont, wDrop, wRet, wRetN, wIfS, wAsg, wPar, wLstOwn, wAppend, wSetOwn, wIxOwn, wPeek, wRetOwn, wRetFr, wFor, wB, wNot, wAnd, wOr, wAndV, wOrV, wNotV, wIf, wChain, wNil, wCons, wCB, wTup, wLst, wNoPart, wPart, wSlT, wSlL, wSeq, wRng1, wRng2, wZip, wName, wNilT, wConsT, wTupT, wYes, wNeg, wVar, wC, wOp, wcNil, wcCons, wcOwn, wCall, wCallOwn, slots, cellsOf, OwnArgs, putBack, g2I, g2IC, gLen, gAbs, gGcd, gInt1, gTupleOf, gListOf, gIx, gCatT, gCat, gEq, gNe, gIsN, gNotN, scD, seqD_t, seqD_l, seqD_f, isNonD, List.nodup_cons, List.mem_cons, List.not_mem_nil, or_false, not_false_eq_true, Nat.reduceEqDiff, L3.Keeps, ends, wipeD, List.replicate, List.cons_append, List.nil_append, List.append_nil, List.getElem?_cons_zero, List.getElem?_cons_succ, List.set_cons_zero, List.set_cons_succ, List.getD_cons_zero, List.getD_cons_succ, List.length_cons, List.length_nil, List.nodup_nil, Option.some.injEq, Cell.dat.injEq, Cell.own.injEq, Cont.lst.injEq, D.bl.injEq, D.int.injEq, D.str.injEq, D.tup.injEq, D.lst.injEq, Arg.d.injEq, List.cons.injEq, exists_and_left, exists_and_right, exists_eq_left', exists_eq_left, exists_eq_right, exists_eq_right', exists_eq, exists_eq', and_true, true_and, and_assoc, and_self, exists_const, reduceCtorEq]
    exact ⟨ss, ⟨ks, rfl⟩, hx, fun z => by rw [g1] at z; simp at z, fun _ => ⟨fun _ => h2 n, fun z => z.elim⟩⟩
  | true =>
    obtain ⟨i, rfl, i0, i1⟩ := betw_int g1
    cases g2 : isBetw 0 ((ss.length : Int) - 1) y with
    | false =>
      have n : isPair ss (.int i) y = false := by
        cases y with
        | int j =>
          simp only [isBetw, Bool.and_eq_false_iff, decide_eq_false_iff_not] at g2
          simp only [isPair]
          by_cases a : 0 ≤ j <;> by_cases b : j < ss.length <;> simp [a, b] <;> omega
        | _ => rfl
      simp only [w_check_pair, fs_is_sort_number, gIsB, gNotB, D.adr.injEq, Cont.pool.injEq, ixN31, ne_eq, List.map_cons, List.map_nil, wPoolOpen, wPoolClose, wPop0, wPopTo, wListOwn, wRemove, wRaise0, wRaise1, wAugOwn, wEnumL, wTru, wSlA, gCatA, gLtT, gLeT, wFrz, wChain3, wAttr, wMkF, wEnumT, wRevT, wDict0, wDict1, numD3, Nat.reduceAdd, atI0, atI1, atI2, atI3, atI4, ixN51, ixN52, ixN53, List.length_map, wNever, scal, V.int.injEq, V.str.injEq, V.bl.injEq, wSq, wNext, wBreak, wCont, wDrop, wRet, wRetN, wIfS, wAsg, wPar, wLstOwn, wAppend, wSetOwn, wIxOwn, wPeek, wRetOwn, wRetFr, wFor, wB, wNot, wAnd, wOr, wAndV, wOrV, wNotV, wIf, wChain, wNil, wCons, wCB, wTup, wLst, wNoPart, wPart, wSlT, wSlL, wSeq, wRng1, wRng2, wZip, wName, wNilT, wConsT, wTupT, wYes, wNeg, wVar, wC, wOp, wcNil, wcCons, wcOwn, wCall, wCallOwn, slots, cellsOf, OwnArgs, putBack, g2I, g2IC, gLen, gAbs, gGcd, gInt1, gTupleOf, gListOf, gIx, gCatT, gCat, gEq, gNe, gIsN, gNotN, scD, seqD_t, seqD_l, seqD_f, isNonD, List.nodup_cons, List.mem_cons, List.not_mem_nil, or_false, not_false_eq_true, Nat.reduceEqDiff, L3.Keeps, ends, wipeD, List.replicate, List.cons_append, List.nil_append, List.append_nil, List.getElem?_cons_zero, List.getElem?_cons_succ, List.set_cons_zero, List.set_cons_succ, List.getD_cons_zero, List.getD_cons_succ, List.length_cons, List.length_nil, List.nodup_nil, Option.some.injEq, Cell.dat.injEq, Cell.own.injEq, Cont.lst.injEq, D.bl.injEq, D.int.injEq, D.str.injEq, D.tup.injEq, D.lst.injEq, Arg.d.injEq, List.cons.injEq, exists_and_left, exists_and_right, exists_eq_left', exists_eq_left, exists_eq_right, exists_eq_right', exists_eq, exists_eq', and_true, true_and, and_assoc, and_self, exists_const, reduceCtorEq]
      exact ⟨ss, ⟨ks, rfl⟩, hx, fun _ => ⟨ss, ⟨ks, rfl⟩, hy, fun _ => h2 n, fun z => by rw [g2] at z; simp at z⟩, fun z => by rw [g1] at z; simp at z⟩
    | true =>
      obtain ⟨j, rfl, j0, j1⟩ := betw_int g2
      obtain ⟨i, rfl⟩ := Int.eq_ofNat_of_zero_le i0
      obtain ⟨j, rfl⟩ := Int.eq_ofNat_of_zero_le j0
      have hi : i < ss.length := by omega
      have hj : j < ss.length := by omega
      have ep : isPair ss (.int i) (.int j) = !(decide (i = j) && decide (ss[i].1 = 0)) := by
        simp only [isPair, Int.toNat_natCast, List.getElem?_eq_getElem hi]
        have : ((i : Int) = (j : Int)) = (i = j) := propext ⟨fun h => by omega, fun h => by omega⟩
        simp [hi, hj, this]
      rw [ep] at h1 h2
      have am : atI (ss.map soD) (i : Int) = some (soD ss[i]) := atI_nat' (by rw [List.getElem?_map, List.getElem?_eq_getElem hi]; rfl)
      simp only [w_check_pair, fs_is_sort_number, gIsB, gNotB, D.adr.injEq, Cont.pool.injEq, ixN31, ne_eq, List.map_cons, List.map_nil, wPoolOpen, wPoolClose, wPop0, wPopTo, wListOwn, wRemove, wRaise0, wRaise1, wAugOwn, wEnumL, wTru, wSlA, gCatA, gLtT, gLeT, wFrz, wChain3, wAttr, wMkF, wEnumT, wRevT, wDict0, wDict1, numD3, Nat.reduceAdd, atI0, atI1, atI2, atI3, atI4, ixN51, ixN52, ixN53, List.length_map, wNever, scal, V.int.injEq, V.str.injEq, V.bl.injEq, wSq, wNext, wBreak, wCont, wDrop, wRet, wRetN, wIfS, wAsg, wPar, wLstOwn, wAppend, wSetOwn, wIxOwn, wPeek, wRetOwn, wRetFr, wFor, wB, wNot, wAnd, wOr, wAndV, wOrV, wNotV, wIf, wChain, wNil, wCons, wCB, wTup, wLst, wNoPart, wPart, wSlT, wSlL, wSeq, wRng1, wRng2, wZip, wName, wNilT, wConsT, wTupT, wYes, wNeg, wVar, wC, wOp, wcNil, wcCons, wcOwn, wCall, wCallOwn, slots, cellsOf, OwnArgs, putBack, g2I, g2IC, gLen, gAbs, gGcd, gInt1, gTupleOf, gListOf, gIx, gCatT, gCat, gEq, gNe, gIsN, gNotN, scD, seqD_t, seqD_l, seqD_f, isNonD, List.nodup_cons, List.mem_cons, List.not_mem_nil, or_false, not_false_eq_true, Nat.reduceEqDiff, L3.Keeps, ends, wipeD, List.replicate, List.cons_append, List.nil_append, List.append_nil, List.getElem?_cons_zero, List.getElem?_cons_succ, List.set_cons_zero, List.set_cons_succ, List.getD_cons_zero, List.getD_cons_succ, List.length_cons, List.length_nil, List.nodup_nil, Option.some.injEq, Cell.dat.injEq, Cell.own.injEq, Cont.lst.injEq, D.bl.injEq, D.int.injEq, D.str.injEq, D.tup.injEq, D.lst.injEq, Arg.d.injEq, List.cons.injEq, exists_and_left, exists_and_right, exists_eq_left', exists_eq_left, exists_eq_right, exists_eq_right', exists_eq, exists_eq', and_true, true_and, and_assoc, and_self, exists_const, reduceCtorEq]
      refine ⟨ss, ⟨ks, rfl⟩, hx, fun _ => ⟨ss, ⟨ks, rfl⟩, hy, fun z => by rw [g2] at z; simp at z, fun _ => ?_⟩, fun z => by rw [g1] at z; simp at z⟩
      refine ⟨fun z => ⟨_, rfl, _, rfl, _, rfl, _, am, _, rfl, _, atI0, _, rfl, rfl, fun w => ?_, fun w => ?_⟩, fun z => ?_⟩
      · have z : (i : Int) = (j : Int) := of_decide_eq_true z
        have w : V.int ss[i].1 = V.int 0 := of_decide_eq_true w
        have z : i = j := by omega
        cases w' : decide (ss[i].1 = 0) with
        | true => exact h2 (by simp only [z, decide_true, Bool.true_and]; subst z; rw [w']; rfl)
        | false =>
          have w2 : ss[i].1 = 0 := by injection w
          rw [decide_eq_true w2] at w'
          cases w'
      · have z : (i : Int) = (j : Int) := of_decide_eq_true z
        have w : ¬ V.int ss[i].1 = V.int 0 := of_decide_eq_false w
        have w' : decide (ss[i].1 = 0) = false := decide_eq_false fun y => w (by rw [y])
        exact h1 (by rw [w', Bool.and_false]; rfl)
      · have z : ¬ (i : Int) = (j : Int) := of_decide_eq_false z
        have z' : decide (i = j) = false := decide_eq_false fun y => z (by rw [y])
        have := h1 (by rw [z', Bool.false_and]; rfl)
        exact ⟨fun y => y.elim, fun _ => this⟩
theorem ok_check_pair (T : Txt K mg) : FnOk P w K mg base (L2.CX P w) 4 T.f_check_pair T.fd_check_pair ["book", "i", "j"] (spOf K 3 (fs_check_pair K T.Z)) := by
  refine def_ok T.F_check_pair sc_check_pair (wb := w_check_pair K T.Z) pure_check_pair ?_
  intro cdv A outer s H E hr tk
  exact ⟨_, (pss_cons (ps_if (PW.pt (pw_or (pt_not (pt_val (pe_callS (ok_is_sort_number T) (hr.mono (by decide)) rfl T.g_is_sort_number T.k_is_sort_number T.b_is_sort_number (fun σ => passAt tk σ) (pa_cons (pv 0) (pa_cons (pv 1) pa_nil))))) (pw_or1 (pt_not (pt_val (pe_callS (ok_is_sort_number T) (hr.mono (by decide)) rfl T.g_is_sort_number T.k_is_sort_number T.b_is_sort_number (fun σ => passAt tk σ) (pa_cons (pv 0) (pa_cons (pv 2) pa_nil))))))))
        (pss_one (ps_raise rfl tk (pmk0 T.x_NoSort (hr.mono (by decide : 0 ≤ _)))))
        pss_nil)
      (pss_one (ps_if (PW.pt (pw_and (pt_cmpR op_eq (pv 1) (pv 2) (nomark _)) (pw_and1 (pt_cmpR op_eq (pe_ix ix_seq (pe_ix ix_seq (pe_fld (pv 0) rfl) (pv 1) (fun _ _ => rfl)) pe_int (fun _ _ => rfl)) pe_int (nomark _)))))
        (pss_one (ps_raise rfl tk (pmk0 T.x_NoSort (hr.mono (by decide : 0 ≤ _)))))
        pss_nil))),
    (ds_seq (ds_if (dt_or (dt_not (dt_B (de_call (n := 2) (fs := fs_is_sort_number K T.Z) (dac_cons (de_var 0) (dac_cons (de_var 1) dac_nil))))) (dt_not (dt_B (de_call (n := 2) (fs := fs_is_sort_number K T.Z) (dac_cons (de_var 0) (dac_cons (de_var 2) dac_nil)))))) (ds_raise0 (C := T.Z.C_NoSort)) ds_nil)
      (ds_if (dt_and (dt_B (de_op o_eq (de_var 1) (de_var 2))) (dt_B (de_op o_eq (de_op o_ix (de_op o_ix (de_fld T.it_Book.cl T.na_Book_sorts (de_var 0)) (de_var 1)) de_int) de_int))) (ds_raise0 (C := T.Z.C_NoSort)) ds_nil))⟩
abbrev s_part_of : Stmt := topS 41
theorem sc_part_of : FnScope ["sort", "width", "cap"] ["sort"] (defScope s_part_of) := ⟨rfl, rfl, rfl, by decide +kernel, rfl, by decide +kernel, by decide +kernel⟩
def w_part_of (K : PySem.W.Frag) : SW := (wSq (wAsg (wVar 0) (wTupT 2 (wConsT (wName 1) (wConsT (wName 2) wNilT))))
  (wRet (wIf (wB (wOp gGtI (wVar 1) (wC (.int 0)))) (wCall 2 (fs_fraction K) (wcCons (wVar 2) (wcCons (wVar 1) wcNil))) (wC (.tup [.int 0, .int 1])))))
def partF (s : So) : D := if 0 < s.1 then nf s.2 s.1 else .tup [.int 0, .int 1]
def fs_part_of (K : PySem.W.Frag) : FS := fun cs q _ => ∃ s : So, cs = [.dat (soD s)] ∧ s.1 ≤ 12 ∧ q (partF s) cs
theorem pure_part_of : PureD 1 2 (fs_part_of K) (w_part_of K) := by
  rintro cs q e - ⟨s, rfl, h, hq⟩
  unfold partF soD at hq
  simp only [w_part_of, fs_fraction, soD, wTupT, gIsB, gNotB, D.adr.injEq, Cont.pool.injEq, ixN31, ne_eq, List.map_cons, List.map_nil, wPoolOpen, wPoolClose, wPop0, wPopTo, wListOwn, wRemove, wRaise0, wRaise1, wAugOwn, wEnumL, wTru, wSlA, gCatA, gLtT, gLeT, wFrz, wChain3, wAttr, wMkF, wEnumT, wRevT, wDict0, wDict1, numD3, Nat.reduceAdd, atI0, atI1, atI2, atI3, atI4, ixN51, ixN52, ixN53, List.length_map, wNever, scal, V.int.injEq, V.str.injEq, V.bl.injEq, wSq, wNext, wBreak, wCont, wDrop, wRet, wRetN, wIfS, wAsg, wPar, wLstOwn, wAppend, wSetOwn, wIxOwn, wPeek, wRetOwn, wRetFr, wFor, wB, wNot, wAnd, wOr, wAndV, wOrV, wNotV, wIf, wChain, wNil, wCons, wCB, wTup, wLst, wNoPart, wPart, wSlT, wSlL, wSeq, wRng1, wRng2, wZip, wName, wNilT, wConsT, wTupT, wYes, wNeg, wVar, wC, wOp, wcNil, wcCons, wcOwn, wCall, wCallOwn, slots, cellsOf, OwnArgs, putBack, g2I, g2IC, gLen, gAbs, gGcd, gInt1, gTupleOf, gListOf, gIx, gCatT, gCat, gEq, gNe, gIsN, gNotN, scD, seqD_t, seqD_l, seqD_f, isNonD, List.nodup_cons, List.mem_cons, List.not_mem_nil, or_false, not_false_eq_true, Nat.reduceEqDiff, L3.Keeps, ends, wipeD, List.replicate, List.cons_append, List.nil_append, List.append_nil, List.getElem?_cons_zero, List.getElem?_cons_succ, List.set_cons_zero, List.set_cons_succ, List.getD_cons_zero, List.getD_cons_succ, List.length_cons, List.length_nil, List.nodup_nil, Option.some.injEq, Cell.dat.injEq, Cell.own.injEq, Cont.lst.injEq, D.bl.injEq, D.int.injEq, D.str.injEq, D.tup.injEq, D.lst.injEq, Arg.d.injEq, List.cons.injEq, exists_and_left, exists_and_right, exists_eq_left', exists_eq_left, exists_eq_right, exists_eq_right', exists_eq, exists_eq', and_true, true_and, and_assoc, and_self, exists_const, reduceCtorEq]
  refine ⟨fun z => ?_, fun z => ?_⟩
  · have z := of_decide_eq_true z
    rw [if_pos z] at hq
    exact ⟨z, Nat.lt_of_lt_of_le (show s.1.natAbs < 2 ^ 8 by omega) (pow_le (by decide)), hq⟩
  · have z := of_decide_eq_false z
    rw [if_neg z] at hq
    exact hq
theorem ok_part_of (T : Txt K mg) : FnOk P w K mg base (L2.CX P w) 2 T.f_part_of T.fd_part_of ["sort"] (spOf K 1 (fs_part_of K)) := by
  refine def_ok T.F_part_of sc_part_of (wb := w_part_of K) pure_part_of ?_
  intro cdv A outer s H E hr tk
  exact ⟨_, (pss_cons (ps_asg (pv 0) (pg_tup (by rfl) (pgs_cons (pg_name (i := 1) sc_part_of.nd rfl (by first | exact Or.inl rfl | exact Or.inr rfl)) (pgs_cons (pg_name (i := 2) sc_part_of.nd rfl (by first | exact Or.inl rfl | exact Or.inr rfl)) pgs_nil))))
      (pss_one (ps_ret (pe_ifExp (pt_cmpR op_gt (pv 1) pe_int (nomark _)) (pe_callS (ok_fraction T) (hr.mono (by decide)) rfl T.g_fraction T.k_fraction T.b_fraction (fun σ => passAt tk σ) (pa_cons (pv 2) (pa_cons (pv 1) pa_nil))) (pe_glob (v := .ref T.tp_NOTHING) rfl T.mt_NOTHING rfl))))),
    (ds_seq (ds_asg (de_var 0) (dg_tup (n := 2) (dgs_cons (dg_name 1) (dgs_cons (dg_name 2) dgs_nil))))
      (ds_ret (de_if (dt_B (de_op o_gt (de_var 1) de_int)) (de_call (n := 2) (fs := fs_fraction K) (dac_cons (de_var 2) (dac_cons (de_var 1) dac_nil))) (de_c T.rt_NOTHING))))⟩
abbrev s_room_of : Stmt := topS 42
theorem sc_room_of : FnScope ["sorts", "i", "j"] ["sorts", "i", "j"] (defScope s_room_of) := ⟨rfl, rfl, rfl, by decide +kernel, rfl, by decide +kernel, by decide +kernel⟩
def w_room_of (K : PySem.W.Frag) : SW := (wRet (wCall 2 (fs_plus K) (wcCons (wCall 1 (fs_part_of K) (wcCons (wOp gIx (wVar 0) (wVar 1)) wcNil)) (wcCons (wCall 1 (fs_part_of K) (wcCons (wOp gIx (wVar 0) (wVar 2)) wcNil)) wcNil))))
def fs_room_of (K : PySem.W.Frag) : FS := fun cs q _ => ∃ (ss : List So) (i j : Nat) (s t : So), cs = [.dat (sosD ss), .dat (.int i), .dat (.int j)] ∧ ss[i]? = some s ∧ ss[j]? = some t ∧ (∀ s ∈ ss, 0 ≤ s.1 ∧ s.1 ≤ 12 ∧ 1 ≤ s.2 ∧ s.2 ≤ 6) ∧
  q (nf (roomN s t).1 (roomN s t).2) cs
theorem at_map {ss : List So} {k : Nat} {s : So} (h : ss[k]? = some s) : atI (ss.map soD) (k : Int) = some (soD s) := atI_nat' (by rw [List.getElem?_map, h]; rfl)
theorem part_nf {s : So} (h : 0 ≤ s.1 ∧ s.1 ≤ 12 ∧ 1 ≤ s.2 ∧ s.2 ≤ 6) : ∃ a b, partF s = .tup [.int a, .int b] ∧ 0 < b ∧ SmI 400 a b ∧ a * (partN s).2 = (partN s).1 * b ∧ 0 < (partN s).2 := by
  unfold partF partN
  split
  · rename_i w
    obtain ⟨a, b, e, b0, eq, ha, hb, _⟩ := nf_parts (t := s.2) w
    exact ⟨a, b, e, b0, ⟨Nat.lt_of_lt_of_le (show a.natAbs < 2 ^ 8 by omega) (pow_le (by decide)), Nat.lt_of_lt_of_le (show b.natAbs < 2 ^ 8 by omega) (pow_le (by decide))⟩, eq, w⟩
  · exact ⟨0, 1, rfl, by decide, ⟨by decide, by decide⟩, rfl, by decide⟩
theorem pure_room_of : PureD 3 0 (fs_room_of K) (w_room_of K) := by
  rintro cs q e - ⟨ss, i, j, s, t, rfl, h1, h2, hs, hq⟩
  have b1 := hs s (List.mem_of_getElem? h1)
  have b2 := hs t (List.mem_of_getElem? h2)
  obtain ⟨a, b, e1, b0, s1, q1, p1⟩ := part_nf b1
  obtain ⟨c, d, e2, d0, s2, q2, p2⟩ := part_nf b2
  simp only [w_room_of, fs_part_of, fs_plus, sosD, seqD_t, at_map h1, at_map h2, gIsB, gNotB, D.adr.injEq, Cont.pool.injEq, ixN31, ne_eq, List.map_cons, List.map_nil, wPoolOpen, wPoolClose, wPop0, wPopTo, wListOwn, wRemove, wRaise0, wRaise1, wAugOwn, wEnumL, wTru, wSlA, gCatA, gLtT, gLeT, wFrz, wChain3, wAttr, wMkF, wEnumT, wRevT, wDict0, wDict1, numD3, Nat.reduceAdd, atI0, atI1, atI2, atI3, atI4, ixN51, ixN52, ixN53, List.length_map, wNever, scal, V.int.injEq, V.str.injEq, V.bl.injEq, wSq, wNext, wBreak, wCont, wDrop, wRet, wRetN, wIfS, wAsg, wPar, wLstOwn, wAppend, wSetOwn, wIxOwn, wPeek, wRetOwn, wRetFr, wFor, wB, wNot, wAnd, wOr, wAndV, wOrV, wNotV, wIf, wChain, wNil, wCons, wCB, wTup, wLst, wNoPart, wPart, wSlT, wSlL, wSeq, wRng1, wRng2, wZip, wName, wNilT, wConsT, wTupT, wYes, wNeg, wVar, wC, wOp, wcNil, wcCons, wcOwn, wCall, wCallOwn, slots, cellsOf, OwnArgs, putBack, g2I, g2IC, gLen, gAbs, gGcd, gInt1, gTupleOf, gListOf, gIx, gCatT, gCat, gEq, gNe, gIsN, gNotN, scD, seqD_t, seqD_l, seqD_f, isNonD, List.nodup_cons, List.mem_cons, List.not_mem_nil, or_false, not_false_eq_true, Nat.reduceEqDiff, L3.Keeps, ends, wipeD, List.replicate, List.cons_append, List.nil_append, List.append_nil, List.getElem?_cons_zero, List.getElem?_cons_succ, List.set_cons_zero, List.set_cons_succ, List.getD_cons_zero, List.getD_cons_succ, List.length_cons, List.length_nil, List.nodup_nil, Option.some.injEq, Cell.dat.injEq, Cell.own.injEq, Cont.lst.injEq, D.bl.injEq, D.int.injEq, D.str.injEq, D.tup.injEq, D.lst.injEq, Arg.d.injEq, List.cons.injEq, exists_and_left, exists_and_right, exists_eq_left', exists_eq_left, exists_eq_right, exists_eq_right', exists_eq, exists_eq', and_true, true_and, and_assoc, and_self, exists_const, reduceCtorEq]
  refine ⟨s, rfl, b1.2.1, t, rfl, b2.2.1, a, b, e1, c, d, e2, b0, d0, s1, s2, ?_⟩
  have : nf (a * d + c * b) (b * d) = nf (roomN s t).1 (roomN s t).2 := by
    refine nf_eq (Int.mul_pos b0 d0) (Int.mul_pos p1 p2) ?_
    unfold roomN
    show (a * d + c * b) * ((partN s).2 * (partN t).2) = ((partN s).1 * (partN t).2 + (partN t).1 * (partN s).2) * (b * d)
    rw [Int.add_mul, Int.add_mul]
    congr 1
    · calc a * d * ((partN s).2 * (partN t).2) = (a * (partN s).2) * (d * (partN t).2) := by ac_rfl
        _ = ((partN s).1 * b) * (d * (partN t).2) := by rw [q1]
        _ = _ := by ac_rfl
    · calc c * b * ((partN s).2 * (partN t).2) = (c * (partN t).2) * (b * (partN s).2) := by ac_rfl
        _ = ((partN t).1 * d) * (b * (partN s).2) := by rw [q2]
        _ = _ := by ac_rfl
  rw [this]
  exact hq
theorem ok_room_of (T : Txt K mg) : FnOk P w K mg base (L2.CX P w) 3 T.f_room_of T.fd_room_of ["sorts", "i", "j"] (spOf K 3 (fs_room_of K)) := by
  refine def_ok T.F_room_of sc_room_of (wb := w_room_of K) pure_room_of ?_
  intro cdv A outer s H E hr tk
  exact ⟨_, (pss_one (ps_ret (pe_callS (ok_plus T) (hr.mono (by decide)) rfl T.g_plus T.k_plus T.b_plus (fun σ => passAt tk σ) (pa_cons (pe_callS (ok_part_of T) (hr.mono (by decide)) rfl T.g_part_of T.k_part_of T.b_part_of (fun σ => passAt tk σ) (pa_cons (pe_ix ix_seq (pv 0) (pv 1) (fun _ _ => rfl)) pa_nil)) (pa_cons (pe_callS (ok_part_of T) (hr.mono (by decide)) rfl T.g_part_of T.k_part_of T.b_part_of (fun σ => passAt tk σ) (pa_cons (pe_ix ix_seq (pv 0) (pv 2) (fun _ _ => rfl)) pa_nil)) pa_nil))))),
    (ds_ret (de_call (n := 2) (fs := fs_plus K) (dac_cons (de_call (n := 1) (fs := fs_part_of K) (dac_cons (de_op o_ix (de_var 0) (de_var 1)) dac_nil)) (dac_cons (de_call (n := 1) (fs := fs_part_of K) (dac_cons (de_op o_ix (de_var 0) (de_var 2)) dac_nil)) dac_nil))))⟩
abbrev s_room : Stmt := topS 43
theorem sc_room : FnScope ["book", "i", "j"] ["book", "i", "j"] (defScope s_room) := ⟨rfl, rfl, rfl, by decide +kernel, rfl, by decide +kernel, by decide +kernel⟩
def w_room (K : PySem.W.Frag) (Z : CT) : SW := (wSq (wDrop (wCall 3 (fs_check_pair K Z) (wcCons (wVar 0) (wcCons (wVar 1) (wcCons (wVar 2) wcNil)))))
  (wRet (wCall 3 (fs_room_of K) (wcCons (wAttr Z.C_Book "sorts" (wVar 0)) (wcCons (wVar 1) (wcCons (wVar 2) wcNil))))))
def fs_room (K : PySem.W.Frag) (Z : CT) : FS := fun cs q e => ∃ (ss : List So) (ks x y : D), cs = [.dat (bookI Z (sosD ss) ks), .dat x, .dat y] ∧ OkD K x ∧ OkD K y ∧ (∀ s ∈ ss, 0 ≤ s.1 ∧ s.1 ≤ 12 ∧ 1 ≤ s.2 ∧ s.2 ≤ 6) ∧
  (∀ (i j : Nat) (s t : So), x = .int i → y = .int j → ss[i]? = some s → ss[j]? = some t → isPair ss x y = true → q (nf (roomN s t).1 (roomN s t).2) cs) ∧ (isPair ss x y = false → e ⟨Z.C_NoSort, []⟩ cs)
theorem isPair_int {ss : List So} {x y : D} (h : isPair ss x y = true) : ∃ (i j : Nat) (s t : So), x = .int i ∧ y = .int j ∧ ss[i]? = some s ∧ ss[j]? = some t := by
  cases x <;> cases y <;> simp [isPair] at h
  rename_i i j
  obtain ⟨i, rfl⟩ := Int.eq_ofNat_of_zero_le h.1.1.1.1
  obtain ⟨j, rfl⟩ := Int.eq_ofNat_of_zero_le h.1.1.2
  have hi : i < ss.length := by omega
  have hj : j < ss.length := by omega
  exact ⟨i, j, ss[i], ss[j], rfl, rfl, List.getElem?_eq_getElem hi, List.getElem?_eq_getElem hj⟩
theorem pure_room {Z : CT} : PureD 3 0 (fs_room K Z) (w_room K Z) := by
  rintro cs q e - ⟨ss, ks, x, y, rfl, hx, hy, hs, h1, h2⟩
  simp only [w_room, fs_check_pair, fs_room_of, gIsB, gNotB, D.adr.injEq, Cont.pool.injEq, ixN31, ne_eq, List.map_cons, List.map_nil, wPoolOpen, wPoolClose, wPop0, wPopTo, wListOwn, wRemove, wRaise0, wRaise1, wAugOwn, wEnumL, wTru, wSlA, gCatA, gLtT, gLeT, wFrz, wChain3, wAttr, wMkF, wEnumT, wRevT, wDict0, wDict1, numD3, Nat.reduceAdd, atI0, atI1, atI2, atI3, atI4, ixN51, ixN52, ixN53, List.length_map, wNever, scal, V.int.injEq, V.str.injEq, V.bl.injEq, wSq, wNext, wBreak, wCont, wDrop, wRet, wRetN, wIfS, wAsg, wPar, wLstOwn, wAppend, wSetOwn, wIxOwn, wPeek, wRetOwn, wRetFr, wFor, wB, wNot, wAnd, wOr, wAndV, wOrV, wNotV, wIf, wChain, wNil, wCons, wCB, wTup, wLst, wNoPart, wPart, wSlT, wSlL, wSeq, wRng1, wRng2, wZip, wName, wNilT, wConsT, wTupT, wYes, wNeg, wVar, wC, wOp, wcNil, wcCons, wcOwn, wCall, wCallOwn, slots, cellsOf, OwnArgs, putBack, g2I, g2IC, gLen, gAbs, gGcd, gInt1, gTupleOf, gListOf, gIx, gCatT, gCat, gEq, gNe, gIsN, gNotN, scD, seqD_t, seqD_l, seqD_f, isNonD, List.nodup_cons, List.mem_cons, List.not_mem_nil, or_false, not_false_eq_true, Nat.reduceEqDiff, L3.Keeps, ends, wipeD, List.replicate, List.cons_append, List.nil_append, List.append_nil, List.getElem?_cons_zero, List.getElem?_cons_succ, List.set_cons_zero, List.set_cons_succ, List.getD_cons_zero, List.getD_cons_succ, List.length_cons, List.length_nil, List.nodup_nil, Option.some.injEq, Cell.dat.injEq, Cell.own.injEq, Cont.lst.injEq, D.bl.injEq, D.int.injEq, D.str.injEq, D.tup.injEq, D.lst.injEq, Arg.d.injEq, List.cons.injEq, exists_and_left, exists_and_right, exists_eq_left', exists_eq_left, exists_eq_right, exists_eq_right', exists_eq, exists_eq', and_true, true_and, and_assoc, and_self, exists_const, reduceCtorEq]
  refine ⟨ss, ⟨ks, rfl⟩, hx, hy, fun z => ?_, h2⟩
  obtain ⟨i, j, s, t, e1, e2, e3, e4⟩ := isPair_int z
  exact ⟨_, rfl, _, rfl, ss, rfl, i, e1, j, e2, s, e3, t, e4, hs, h1 i j s t e1 e2 e3 e4 z⟩
theorem ok_room (T : Txt K mg) : FnOk P w K mg base (L2.CX P w) 5 T.f_room T.fd_room ["book", "i", "j"] (spOf K 3 (fs_room K T.Z)) := by
  refine def_ok T.F_room sc_room (wb := w_room K T.Z) pure_room ?_
  intro cdv A outer s H E hr tk
  exact ⟨_, (pss_cons (ps_expr (pe_callS (ok_check_pair T) (hr.mono (by decide)) rfl T.g_check_pair T.k_check_pair T.b_check_pair (fun σ => passAt tk σ) (pa_cons (pv 0) (pa_cons (pv 1) (pa_cons (pv 2) pa_nil)))))
      (pss_one (ps_ret (pe_callS (ok_room_of T) (hr.mono (by decide)) rfl T.g_room_of T.k_room_of T.b_room_of (fun σ => passAt tk σ) (pa_cons (pe_fld (pv 0) rfl) (pa_cons (pv 1) (pa_cons (pv 2) pa_nil))))))),
    (ds_seq (ds_drop (de_call (n := 3) (fs := fs_check_pair K T.Z) (dac_cons (de_var 0) (dac_cons (de_var 1) (dac_cons (de_var 2) dac_nil)))))
      (ds_ret (de_call (n := 3) (fs := fs_room_of K) (dac_cons (de_fld T.it_Book.cl T.na_Book_sorts (de_var 0)) (dac_cons (de_var 1) (dac_cons (de_var 2) dac_nil))))))⟩
abbrev s_grains_of : Stmt := topS 44
theorem sc_grains_of : FnScope ["sorts", "i", "j"] ["sorts", "i", "j"] (defScope s_grains_of) := ⟨rfl, rfl, rfl, by decide +kernel, rfl, by decide +kernel, by decide +kernel⟩
def w_grains_of (K : PySem.W.Frag) : SW := (wRet (wCall 2 (fs_grains_in_one K) (wcCons (wOp gIx (wOp gIx (wVar 0) (wVar 1)) (wC (.int 0))) (wcCons (wOp gIx (wOp gIx (wVar 0) (wVar 2)) (wC (.int 0))) wcNil))))
def fs_grains_of (K : PySem.W.Frag) : FS := fun cs q _ => ∃ (ss : List So) (i j : Nat) (s t : So), cs = [.dat (sosD ss), .dat (.int i), .dat (.int j)] ∧ ss[i]? = some s ∧ ss[j]? = some t ∧ SoB ss ∧ ¬ (s.1 = 0 ∧ t.1 = 0) ∧ q (.int (grI s.1 t.1)) cs
theorem pure_grains_of : PureD 3 0 (fs_grains_of K) (w_grains_of K) := by
  rintro cs q e - ⟨ss, i, j, s, t, rfl, h1, h2, hs, hn, hq⟩
  have b1 := hs s (List.mem_of_getElem? h1)
  have b2 := hs t (List.mem_of_getElem? h2)
  unfold sosD at hq
  simp only [w_grains_of, fs_grains_in_one, sosD, seqD_t, at_map h1, at_map h2, soD, atI0, gIsB, gNotB, D.adr.injEq, Cont.pool.injEq, ixN31, ne_eq, List.map_cons, List.map_nil, wPoolOpen, wPoolClose, wPop0, wPopTo, wListOwn, wRemove, wRaise0, wRaise1, wAugOwn, wEnumL, wTru, wSlA, gCatA, gLtT, gLeT, wFrz, wChain3, wAttr, wMkF, wEnumT, wRevT, wDict0, wDict1, numD3, Nat.reduceAdd, atI0, atI1, atI2, atI3, atI4, ixN51, ixN52, ixN53, List.length_map, wNever, scal, V.int.injEq, V.str.injEq, V.bl.injEq, wSq, wNext, wBreak, wCont, wDrop, wRet, wRetN, wIfS, wAsg, wPar, wLstOwn, wAppend, wSetOwn, wIxOwn, wPeek, wRetOwn, wRetFr, wFor, wB, wNot, wAnd, wOr, wAndV, wOrV, wNotV, wIf, wChain, wNil, wCons, wCB, wTup, wLst, wNoPart, wPart, wSlT, wSlL, wSeq, wRng1, wRng2, wZip, wName, wNilT, wConsT, wTupT, wYes, wNeg, wVar, wC, wOp, wcNil, wcCons, wcOwn, wCall, wCallOwn, slots, cellsOf, OwnArgs, putBack, g2I, g2IC, gLen, gAbs, gGcd, gInt1, gTupleOf, gListOf, gIx, gCatT, gCat, gEq, gNe, gIsN, gNotN, scD, seqD_t, seqD_l, seqD_f, isNonD, List.nodup_cons, List.mem_cons, List.not_mem_nil, or_false, not_false_eq_true, Nat.reduceEqDiff, L3.Keeps, ends, wipeD, List.replicate, List.cons_append, List.nil_append, List.append_nil, List.getElem?_cons_zero, List.getElem?_cons_succ, List.set_cons_zero, List.set_cons_succ, List.getD_cons_zero, List.getD_cons_succ, List.length_cons, List.length_nil, List.nodup_nil, Option.some.injEq, Cell.dat.injEq, Cell.own.injEq, Cont.lst.injEq, D.bl.injEq, D.int.injEq, D.str.injEq, D.tup.injEq, D.lst.injEq, Arg.d.injEq, List.cons.injEq, exists_and_left, exists_and_right, exists_eq_left', exists_eq_left, exists_eq_right, exists_eq_right', exists_eq, exists_eq', and_true, true_and, and_assoc, and_self, exists_const, reduceCtorEq]
  exact ⟨b1.1, b1.2.1, b2.1, b2.2.1, hn, hq⟩
theorem ok_grains_of (T : Txt K mg) : FnOk P w K mg base (L2.CX P w) 2 T.f_grains_of T.fd_grains_of ["sorts", "i", "j"] (spOf K 3 (fs_grains_of K)) := by
  refine def_ok T.F_grains_of sc_grains_of (wb := w_grains_of K) pure_grains_of ?_
  intro cdv A outer s H E hr tk
  exact ⟨_, (pss_one (ps_ret (pe_callS (ok_grains_in_one T) (hr.mono (by decide)) rfl T.g_grains_in_one T.k_grains_in_one T.b_grains_in_one (fun σ => passAt tk σ) (pa_cons (pe_ix ix_seq (pe_ix ix_seq (pv 0) (pv 1) (fun _ _ => rfl)) pe_int (fun _ _ => rfl)) (pa_cons (pe_ix ix_seq (pe_ix ix_seq (pv 0) (pv 2) (fun _ _ => rfl)) pe_int (fun _ _ => rfl)) pa_nil))))),
    (ds_ret (de_call (n := 2) (fs := fs_grains_in_one K) (dac_cons (de_op o_ix (de_op o_ix (de_var 0) (de_var 1)) de_int) (dac_cons (de_op o_ix (de_op o_ix (de_var 0) (de_var 2)) de_int) dac_nil))))⟩
abbrev s_onsets : Stmt := topS 45
theorem sc_onsets : FnScope ["thresholds", "many", "found", "steps", "number", "step"] ["thresholds", "many"] (defScope s_onsets) := ⟨rfl, rfl, rfl, by decide +kernel, rfl, by decide +kernel, by decide +kernel⟩
def l1_onsets (K : PySem.W.Frag) : SW := wFor (wEnumT (wCons (wVar 3) wNil)) (wTupT 2 (wConsT (wName 4) (wConsT (wName 5) wNilT))) (wIfS (wOr (wB (wOp gEq (wOp gAddI (wVar 4) (wC (.int 1))) (wCB gLen (wCons (wVar 3) wNil)))) (wB (wOp gNeD (wOp gIx (wVar 3) (wOp gAddI (wVar 4) (wC (.int 1)))) (wVar 5)))) (wAppend 2 (wCons (wTup (wCons (wVar 5) (wCons (wOp gAddI (wVar 4) (wC (.int 1))) wNil))) wNil)) wNext)
def w_onsets (K : PySem.W.Frag) : SW := (wSq (wLstOwn 2 wNil)
  (wSq (wAsg (wCall 2 (fs_rounded_up K) (wcCons (wVar 0) (wcCons (wVar 1) wcNil))) (wName 3))
  (wSq (l1_onsets K)
  (wRetOwn 2))))
def onD (g : Int) (p : Int × Nat) : D := .tup [nf p.1 g, .int (p.2 : Nat)]
theorem nf_th {x g : Int} (h : 0 < g) : ∃ u : Th, nf x g = thD u ∧ u.1 * g = x * u.2 ∧ 0 < u.2 ∧ u.1.natAbs ≤ x.natAbs ∧ u.2.natAbs ≤ g.natAbs := by
  obtain ⟨t', b', e, b0, e2, l1, l2, _⟩ := nf_parts (t := x) h
  exact ⟨(t', b'), e, e2, b0, l1, l2⟩
theorem nf_inj {x y g : Int} (h : 0 < g) (e : nf x g = nf y g) : x = y := by
  obtain ⟨u, e1, u1, u2, _⟩ := nf_th (x := x) h
  obtain ⟨v, e2, v1, v2, _⟩ := nf_th (x := y) h
  rw [e1, e2] at e
  unfold thD at e
  simp only [D.tup.injEq, List.cons.injEq, D.int.injEq, and_true] at e
  obtain ⟨a, b⟩ := e
  rw [a, v1, b] at u1
  exact (Int.eq_of_mul_eq_mul_right (by omega) u1).symm
theorem gNeD_nf {x y g : Int} {q : D → Prop} (h : 0 < g) (hq : q (.bl (!decide (x = y)))) : gNeD (nf x g) (nf y g) q := by
  obtain ⟨u, e1, _⟩ := nf_th (x := x) h
  obtain ⟨v, e2, _⟩ := nf_th (x := y) h
  have e : decide (x = y) = decide (u = v) := by
    refine decide_eq_decide.mpr ⟨fun z => ?_, fun z => nf_inj h (by rw [e1, e2, z])⟩
    rw [z, e2] at e1
    unfold thD at e1
    simp only [D.tup.injEq, List.cons.injEq, D.int.injEq, and_true] at e1
    exact (Prod.ext e1.1 e1.2).symm
  rw [e, ← th_eqv] at hq
  rw [e1, e2]
  exact ⟨thP u, thP v, py_th u, py_th v, sh_th u, sh_th v, hq⟩
def fs_onsets (K : PySem.W.Frag) : FS := fun cs q _ => ∃ (ts : List Th) (g : Int), cs = [.dat (stD ts), .dat (.int g)] ∧ ts.length ≤ 6 ∧ (∀ t ∈ ts, ThOk t) ∧ 1 ≤ g ∧ g ≤ 132 ∧ q (.lst ((onsN (ts.map (stpI g)) 0).map (onD g))) cs
theorem ons_len : ∀ (l : List Int) (k : Nat), (onsN l k).length ≤ l.length
  | [], _ => Nat.le_refl _
  | [x], _ => Nat.le_refl _
  | x :: y :: r, k => by
    have := ons_len (y :: r) (k + 1)
    unfold onsN
    split
    · simp only [List.length_cons] at *; omega
    · simp only [List.length_cons] at *; omega
def InvOn (c0 : Cell) (g : Int) (p : Addr) (xs : List Int) (i : Nat) (τ : List Cell) : Prop := ∃ (fs : List (Int × Nat)) (c4 c5 : Cell), τ = [c0, .dat (.int g), .own p (.lst (fs.map (onD g))), .dat (.tup (nfs g xs)), c4, c5] ∧ fs ++ onsN (xs.drop i) i = onsN xs 0
theorem l1_onsets_ok {c0 c4 c5 : Cell} {g : Int} {p : Addr} {xs : List Int} {E : EndsD} (hg : 0 < g) (hl : xs.length ≤ 6) (hn : ∀ c4 c5, E.nx [c0, .dat (.int g), .own p (.lst ((onsN xs 0).map (onD g))), .dat (.tup (nfs g xs)), c4, c5]) :
    l1_onsets K E [c0, .dat (.int g), .own p (.lst []), .dat (.tup (nfs g xs)), c4, c5] := by
  unfold l1_onsets wFor
  simp only [gIsB, gNotB, D.adr.injEq, Cont.pool.injEq, ixN31, ne_eq, List.map_cons, List.map_nil, wPoolOpen, wPoolClose, wPop0, wPopTo, wListOwn, wRemove, wRaise0, wRaise1, wAugOwn, wEnumL, wTru, wSlA, gCatA, gLtT, gLeT, wFrz, wChain3, wAttr, wMkF, wEnumT, wRevT, wDict0, wDict1, numD3, Nat.reduceAdd, atI0, atI1, atI2, atI3, atI4, ixN51, ixN52, ixN53, List.length_map, wNever, scal, V.int.injEq, V.str.injEq, V.bl.injEq, wSq, wNext, wBreak, wCont, wDrop, wRet, wRetN, wIfS, wAsg, wPar, wLstOwn, wAppend, wSetOwn, wIxOwn, wPeek, wRetOwn, wRetFr, wFor, wB, wNot, wAnd, wOr, wAndV, wOrV, wNotV, wIf, wChain, wNil, wCons, wCB, wTup, wLst, wNoPart, wPart, wSlT, wSlL, wSeq, wRng1, wRng2, wZip, wName, wNilT, wConsT, wTupT, wYes, wNeg, wVar, wC, wOp, wcNil, wcCons, wcOwn, wCall, wCallOwn, slots, cellsOf, OwnArgs, putBack, g2I, g2IC, gLen, gAbs, gGcd, gInt1, gTupleOf, gListOf, gIx, gCatT, gCat, gEq, gNe, gIsN, gNotN, scD, seqD_t, seqD_l, seqD_f, isNonD, List.nodup_cons, List.mem_cons, List.not_mem_nil, or_false, not_false_eq_true, Nat.reduceEqDiff, L3.Keeps, ends, wipeD, List.replicate, List.cons_append, List.nil_append, List.append_nil, List.getElem?_cons_zero, List.getElem?_cons_succ, List.set_cons_zero, List.set_cons_succ, List.getD_cons_zero, List.getD_cons_succ, List.length_cons, List.length_nil, List.nodup_nil, Option.some.injEq, Cell.dat.injEq, Cell.own.injEq, Cont.lst.injEq, D.bl.injEq, D.int.injEq, D.str.injEq, D.tup.injEq, D.lst.injEq, Arg.d.injEq, List.cons.injEq, exists_and_left, exists_and_right, exists_eq_left', exists_eq_left, exists_eq_right, exists_eq_right', exists_eq, exists_eq', and_true, true_and, and_assoc, and_self, exists_const, reduceCtorEq]
  refine ⟨InvOn c0 g p xs, ⟨[], c4, c5, rfl, rfl⟩, ?_, ?_⟩
  · rintro i d τ2 hd ⟨fs, c4, c5, rfl, hf⟩
    have hi := (List.getElem?_eq_some_iff.mp hd).1
    unfold nfs at hi
    rw [List.length_mapIdx, List.length_map] at hi
    have ed : d = .tup [.int i, nf xs[i] g] := by
      rw [List.getElem?_mapIdx] at hd
      unfold nfs at hd
      rw [List.getElem?_map, List.getElem?_eq_getElem hi] at hd
      exact (Option.some.inj hd).symm
    subst ed
    have lf : fs.length ≤ 6 := by
      have a := ons_len xs 0
      rw [← hf, List.length_append] at a
      omega
    have dr : xs.drop i = xs[i] :: xs.drop (i + 1) := List.drop_eq_getElem_cons hi
    rw [dr] at hf
    have ln : (nfs g xs).length = xs.length := by unfold nfs; rw [List.length_map]
    have app : ∀ c4 c5, fs ++ (xs[i], i + 1) :: onsN (xs.drop (i + 1)) (i + 1) = onsN xs 0 → fs.length < 1000 ∧ InvOn c0 g p xs (i + 1) [c0, .dat (.int g), .own p (.lst (fs.map (onD g) ++ [.tup [nf xs[i] g, .int ((i : Int) + 1)]])), .dat (.tup (nfs g xs)), c4, c5] := fun c4 c5 h => by
      refine ⟨by omega, fs ++ [(xs[i], i + 1)], c4, c5, by rw [List.map_append]; rfl, ?_⟩
      rw [List.append_assoc]
      exact h
    simp only [wTupT, wConsT, ln, gIsB, gNotB, D.adr.injEq, Cont.pool.injEq, ixN31, ne_eq, List.map_cons, List.map_nil, wPoolOpen, wPoolClose, wPop0, wPopTo, wListOwn, wRemove, wRaise0, wRaise1, wAugOwn, wEnumL, wTru, wSlA, gCatA, gLtT, gLeT, wFrz, wChain3, wAttr, wMkF, wEnumT, wRevT, wDict0, wDict1, numD3, Nat.reduceAdd, atI0, atI1, atI2, atI3, atI4, ixN51, ixN52, ixN53, List.length_map, wNever, scal, V.int.injEq, V.str.injEq, V.bl.injEq, wSq, wNext, wBreak, wCont, wDrop, wRet, wRetN, wIfS, wAsg, wPar, wLstOwn, wAppend, wSetOwn, wIxOwn, wPeek, wRetOwn, wRetFr, wFor, wB, wNot, wAnd, wOr, wAndV, wOrV, wNotV, wIf, wChain, wNil, wCons, wCB, wTup, wLst, wNoPart, wPart, wSlT, wSlL, wSeq, wRng1, wRng2, wZip, wName, wNilT, wConsT, wTupT, wYes, wNeg, wVar, wC, wOp, wcNil, wcCons, wcOwn, wCall, wCallOwn, slots, cellsOf, OwnArgs, putBack, g2I, g2IC, gLen, gAbs, gGcd, gInt1, gTupleOf, gListOf, gIx, gCatT, gCat, gEq, gNe, gIsN, gNotN, scD, seqD_t, seqD_l, seqD_f, isNonD, List.nodup_cons, List.mem_cons, List.not_mem_nil, or_false, not_false_eq_true, Nat.reduceEqDiff, L3.Keeps, ends, wipeD, List.replicate, List.cons_append, List.nil_append, List.append_nil, List.getElem?_cons_zero, List.getElem?_cons_succ, List.set_cons_zero, List.set_cons_succ, List.getD_cons_zero, List.getD_cons_succ, List.length_cons, List.length_nil, List.nodup_nil, Option.some.injEq, Cell.dat.injEq, Cell.own.injEq, Cont.lst.injEq, D.bl.injEq, D.int.injEq, D.str.injEq, D.tup.injEq, D.lst.injEq, Arg.d.injEq, List.cons.injEq, exists_and_left, exists_and_right, exists_eq_left', exists_eq_left, exists_eq_right, exists_eq_right', exists_eq, exists_eq', and_true, true_and, and_assoc, and_self, exists_const, reduceCtorEq]
    by_cases hlast : i + 1 = xs.length
    · have z : decide (((i : Int) + 1) = (xs.length : Int)) = true := decide_eq_true (by omega)
      rw [z]
      have e0 : xs.drop (i + 1) = [] := List.drop_eq_nil_of_le (by omega)
      rw [e0] at hf app
      refine ⟨fun z => (nomatch z), fun _ => ⟨fun _ => ⟨by decide, app _ _ ?_⟩, fun z => z.elim⟩⟩
      simpa [onsN] using hf
    · have z : decide (((i : Int) + 1) = (xs.length : Int)) = false := decide_eq_false (by omega)
      rw [z]
      have hi1 : i + 1 < xs.length := by omega
      have e0 : xs.drop (i + 1) = xs[i + 1] :: xs.drop (i + 2) := List.drop_eq_getElem_cons hi1
      rw [e0] at hf app
      have ea : atI (nfs g xs) ((i : Int) + 1) = some (nf xs[i + 1] g) := by
        have : ((i : Int) + 1) = ((i + 1 : Nat) : Int) := by omega
        rw [this]
        exact atI_nat' (by unfold nfs; rw [List.getElem?_map, List.getElem?_eq_getElem hi1]; rfl)
      have e3 : onsN (xs[i] :: xs[i + 1] :: xs.drop (i + 2)) i = if xs[i + 1] = xs[i] then onsN (xs[i + 1] :: xs.drop (i + 2)) (i + 1) else (xs[i], i + 1) :: onsN (xs[i + 1] :: xs.drop (i + 2)) (i + 1) := by rw [onsN]
      rw [e3] at hf
      refine ⟨fun _ => ⟨_, ea, gNeD_nf hg ⟨_, rfl, fun y => ⟨by decide, app _ _ ?_⟩, fun y => ?_⟩⟩, fun z => (nomatch z)⟩
      · rw [if_neg (by simpa using y)] at hf
        exact hf
      · rw [if_pos (by simpa using y)] at hf
        exact ⟨fs, _, _, rfl, by rw [e0]; exact hf⟩
  · rintro τ2 ⟨fs, c4, c5, rfl, hf⟩
    have ln : (List.mapIdx (fun i d => D.tup [D.int i, d]) (nfs g xs)).length = xs.length := by unfold nfs; rw [List.length_mapIdx, List.length_map]
    rw [ln, List.drop_length] at hf
    have : fs = onsN xs 0 := by rw [← hf]; simp [onsN]
    rw [this]
    exact hn _ _
theorem pure_onsets : PureD 2 4 (fs_onsets K) (w_onsets K) := by
  rintro cs q e - ⟨ts, g, rfl, hl, ht, g1, g2, hq⟩
  simp only [w_onsets, fs_rounded_up, gIsB, gNotB, D.adr.injEq, Cont.pool.injEq, ixN31, ne_eq, List.map_cons, List.map_nil, wPoolOpen, wPoolClose, wPop0, wPopTo, wListOwn, wRemove, wRaise0, wRaise1, wAugOwn, wEnumL, wTru, wSlA, gCatA, gLtT, gLeT, wFrz, wChain3, wAttr, wMkF, wEnumT, wRevT, wDict0, wDict1, numD3, Nat.reduceAdd, atI0, atI1, atI2, atI3, atI4, ixN51, ixN52, ixN53, List.length_map, wNever, scal, V.int.injEq, V.str.injEq, V.bl.injEq, wSq, wNext, wBreak, wCont, wDrop, wRet, wRetN, wIfS, wAsg, wPar, wLstOwn, wAppend, wSetOwn, wIxOwn, wPeek, wRetOwn, wRetFr, wFor, wB, wNot, wAnd, wOr, wAndV, wOrV, wNotV, wIf, wChain, wNil, wCons, wCB, wTup, wLst, wNoPart, wPart, wSlT, wSlL, wSeq, wRng1, wRng2, wZip, wName, wNilT, wConsT, wTupT, wYes, wNeg, wVar, wC, wOp, wcNil, wcCons, wcOwn, wCall, wCallOwn, slots, cellsOf, OwnArgs, putBack, g2I, g2IC, gLen, gAbs, gGcd, gInt1, gTupleOf, gListOf, gIx, gCatT, gCat, gEq, gNe, gIsN, gNotN, scD, seqD_t, seqD_l, seqD_f, isNonD, List.nodup_cons, List.mem_cons, List.not_mem_nil, or_false, not_false_eq_true, Nat.reduceEqDiff, L3.Keeps, ends, wipeD, List.replicate, List.cons_append, List.nil_append, List.append_nil, List.getElem?_cons_zero, List.getElem?_cons_succ, List.set_cons_zero, List.set_cons_succ, List.getD_cons_zero, List.getD_cons_succ, List.length_cons, List.length_nil, List.nodup_nil, Option.some.injEq, Cell.dat.injEq, Cell.own.injEq, Cont.lst.injEq, D.bl.injEq, D.int.injEq, D.str.injEq, D.tup.injEq, D.lst.injEq, Arg.d.injEq, List.cons.injEq, exists_and_left, exists_and_right, exists_eq_left', exists_eq_left, exists_eq_right, exists_eq_right', exists_eq, exists_eq', and_true, true_and, and_assoc, and_self, exists_const, reduceCtorEq]
  refine ⟨by decide, fun p => ⟨ts, rfl, hl, ht, g1, g2, ?_⟩⟩
  refine l1_onsets_ok (xs := ts.map (stpI g)) (by omega) (by rw [List.length_map]; exact hl) fun c4 c5 => ?_
  simp only [gIsB, gNotB, D.adr.injEq, Cont.pool.injEq, ixN31, ne_eq, List.map_cons, List.map_nil, wPoolOpen, wPoolClose, wPop0, wPopTo, wListOwn, wRemove, wRaise0, wRaise1, wAugOwn, wEnumL, wTru, wSlA, gCatA, gLtT, gLeT, wFrz, wChain3, wAttr, wMkF, wEnumT, wRevT, wDict0, wDict1, numD3, Nat.reduceAdd, atI0, atI1, atI2, atI3, atI4, ixN51, ixN52, ixN53, List.length_map, wNever, scal, V.int.injEq, V.str.injEq, V.bl.injEq, wSq, wNext, wBreak, wCont, wDrop, wRet, wRetN, wIfS, wAsg, wPar, wLstOwn, wAppend, wSetOwn, wIxOwn, wPeek, wRetOwn, wRetFr, wFor, wB, wNot, wAnd, wOr, wAndV, wOrV, wNotV, wIf, wChain, wNil, wCons, wCB, wTup, wLst, wNoPart, wPart, wSlT, wSlL, wSeq, wRng1, wRng2, wZip, wName, wNilT, wConsT, wTupT, wYes, wNeg, wVar, wC, wOp, wcNil, wcCons, wcOwn, wCall, wCallOwn, slots, cellsOf, OwnArgs, putBack, g2I, g2IC, gLen, gAbs, gGcd, gInt1, gTupleOf, gListOf, gIx, gCatT, gCat, gEq, gNe, gIsN, gNotN, scD, seqD_t, seqD_l, seqD_f, isNonD, List.nodup_cons, List.mem_cons, List.not_mem_nil, or_false, not_false_eq_true, Nat.reduceEqDiff, L3.Keeps, ends, wipeD, List.replicate, List.cons_append, List.nil_append, List.append_nil, List.getElem?_cons_zero, List.getElem?_cons_succ, List.set_cons_zero, List.set_cons_succ, List.getD_cons_zero, List.getD_cons_succ, List.length_cons, List.length_nil, List.nodup_nil, Option.some.injEq, Cell.dat.injEq, Cell.own.injEq, Cont.lst.injEq, D.bl.injEq, D.int.injEq, D.str.injEq, D.tup.injEq, D.lst.injEq, Arg.d.injEq, List.cons.injEq, exists_and_left, exists_and_right, exists_eq_left', exists_eq_left, exists_eq_right, exists_eq_right', exists_eq, exists_eq', and_true, true_and, and_assoc, and_self, exists_const, reduceCtorEq]
  exact hq
theorem ok_onsets (T : Txt K mg) : FnOk P w K mg base (L2.CX P w) 3 T.f_onsets T.fd_onsets ["thresholds", "many"] (spOf K 2 (fs_onsets K)) := by
  refine def_ok T.F_onsets sc_onsets (wb := w_onsets K) pure_onsets ?_
  intro cdv A outer s H E hr tk
  exact ⟨_, (pss_cons (ps_set (i := 2) sc_onsets.nd rfl (by first | exact Or.inl rfl | exact Or.inr rfl) (pe_lst pa_nil))
      (pss_cons (ps_set (i := 3) sc_onsets.nd rfl (by first | exact Or.inl rfl | exact Or.inr rfl) (pe_callS (ok_rounded_up T) (hr.mono (by decide)) rfl T.g_rounded_up T.k_rounded_up T.b_rounded_up (fun σ => passAt tk σ) (pa_cons (pv 0) (pa_cons (pv 1) pa_nil))))
      (pss_cons (ps_for (passes_of rfl) rfl (pi_enumT (by rfl) T.z_enumerate (pa_cons (pv 3) pa_nil)) (pg_tup (by rfl) (pgs_cons (pg_name (i := 4) sc_onsets.nd rfl (by first | exact Or.inl rfl | exact Or.inr rfl)) (pgs_cons (pg_name (i := 5) sc_onsets.nd rfl (by first | exact Or.inl rfl | exact Or.inr rfl)) pgs_nil)))
        (pss_one (ps_if (PW.pt (pw_or (pt_cmpR op_eq (pe_op op_add (pv 4) pe_int) (pe_callB call_len_seq (by rfl) T.z_len (by decide +kernel) (pa_cons (pv 3) pa_nil)) (nomark _)) (pw_or1 (pt_cmpR (op_neD hr.units) (pe_ix ix_seq (pv 3) (pe_op op_add (pv 4) pe_int) (fun _ _ => rfl)) (pv 5) (nomark _)))))
        (pss_one (ps_expr (pe_bm PySem.F.plainAttrs_list PySem.F.slot_list_append PySem.F.type_list_append mt_append (pv 2) (pa_cons (pe_tup (pa_cons (pv 5) (pa_cons (pe_op op_add (pv 4) pe_int) pa_nil))) pa_nil))))
        pss_nil)))
      (pss_one (ps_ret (pv 2)))))),
    (ds_seq (ds_lstOwn (i := 2) da_nil)
      (ds_seq (ds_asg (de_call (n := 2) (fs := fs_rounded_up K) (dac_cons (de_var 0) (dac_cons (de_var 1) dac_nil))) (dg_name 3))
      (ds_seq (ds_for (wI := (wEnumT (wCons (wVar 3) wNil))) (wg := (wTupT 2 (wConsT (wName 4) (wConsT (wName 5) wNilT)))) (wb := (wIfS (wOr (wB (wOp gEq (wOp gAddI (wVar 4) (wC (.int 1))) (wCB gLen (wCons (wVar 3) wNil)))) (wB (wOp gNeD (wOp gIx (wVar 3) (wOp gAddI (wVar 4) (wC (.int 1)))) (wVar 5)))) (wAppend 2 (wCons (wTup (wCons (wVar 5) (wCons (wOp gAddI (wVar 4) (wC (.int 1))) wNil))) wNil)) wNext)) (di_enumT (da_cons (de_var 3) da_nil)) (dg_tup (n := 2) (dgs_cons (dg_name 4) (dgs_cons (dg_name 5) dgs_nil))) (ds_if (dt_or (dt_B (de_op o_eq (de_op o_add (de_var 4) de_int) (de_cb o_len (da_cons (de_var 3) da_nil)))) (dt_B (de_op o_neD (de_op o_ix (de_var 3) (de_op o_add (de_var 4) de_int)) (de_var 5)))) (ds_append (i := 2) (da_cons (de_tup (da_cons (de_var 5) (da_cons (de_op o_add (de_var 4) de_int) da_nil))) da_nil)) ds_nil))
      (ds_retOwn (i := 2)))))⟩
abbrev s_overshoots : Stmt := topS 46
theorem sc_overshoots : FnScope ["space", "drop", "many"] ["space", "drop", "many"] (defScope s_overshoots) := ⟨rfl, rfl, rfl, by decide +kernel, rfl, by decide +kernel, by decide +kernel⟩
def w_overshoots (K : PySem.W.Frag) : SW := (wRet (wOp gLeI (wOp gMulA (wOp gMulA (wC (.int 2)) (wOp gIx (wVar 1) (wC (.int 0)))) (wOp gIx (wVar 0) (wC (.int 1)))) (wOp gMulA (wOp gMulA (wVar 2) (wOp gIx (wVar 0) (wC (.int 0)))) (wOp gIx (wVar 1) (wC (.int 1))))))
def fs_overshoots (K : PySem.W.Frag) : FS := fun cs q _ => ∃ (c d a b m : Int), cs = [.dat (.tup [.int c, .int d]), .dat (.tup [.int a, .int b]), .dat (.int m)] ∧ c.natAbs < 2 ^ 60 ∧ d.natAbs < 2 ^ 60 ∧ b.natAbs < 2 ^ 60 ∧ m.natAbs < 2 ^ 60 ∧ q (.bl (decide (2 * a * d ≤ m * c * b))) cs
theorem pure_overshoots : PureD 3 0 (fs_overshoots K) (w_overshoots K) := by
  rintro cs q e - ⟨c, d, a, b, m, rfl, h1, h2, h3, h4, hq⟩
  simp only [w_overshoots, seqD_t, atI0, atI1, gIsB, gNotB, D.adr.injEq, Cont.pool.injEq, ixN31, ne_eq, List.map_cons, List.map_nil, wPoolOpen, wPoolClose, wPop0, wPopTo, wListOwn, wRemove, wRaise0, wRaise1, wAugOwn, wEnumL, wTru, wSlA, gCatA, gLtT, gLeT, wFrz, wChain3, wAttr, wMkF, wEnumT, wRevT, wDict0, wDict1, numD3, Nat.reduceAdd, atI0, atI1, atI2, atI3, atI4, ixN51, ixN52, ixN53, List.length_map, wNever, scal, V.int.injEq, V.str.injEq, V.bl.injEq, wSq, wNext, wBreak, wCont, wDrop, wRet, wRetN, wIfS, wAsg, wPar, wLstOwn, wAppend, wSetOwn, wIxOwn, wPeek, wRetOwn, wRetFr, wFor, wB, wNot, wAnd, wOr, wAndV, wOrV, wNotV, wIf, wChain, wNil, wCons, wCB, wTup, wLst, wNoPart, wPart, wSlT, wSlL, wSeq, wRng1, wRng2, wZip, wName, wNilT, wConsT, wTupT, wYes, wNeg, wVar, wC, wOp, wcNil, wcCons, wcOwn, wCall, wCallOwn, slots, cellsOf, OwnArgs, putBack, g2I, g2IC, gLen, gAbs, gGcd, gInt1, gTupleOf, gListOf, gIx, gCatT, gCat, gEq, gNe, gIsN, gNotN, scD, seqD_t, seqD_l, seqD_f, isNonD, List.nodup_cons, List.mem_cons, List.not_mem_nil, or_false, not_false_eq_true, Nat.reduceEqDiff, L3.Keeps, ends, wipeD, List.replicate, List.cons_append, List.nil_append, List.append_nil, List.getElem?_cons_zero, List.getElem?_cons_succ, List.set_cons_zero, List.set_cons_succ, List.getD_cons_zero, List.getD_cons_succ, List.length_cons, List.length_nil, List.nodup_nil, Option.some.injEq, Cell.dat.injEq, Cell.own.injEq, Cont.lst.injEq, D.bl.injEq, D.int.injEq, D.str.injEq, D.tup.injEq, D.lst.injEq, Arg.d.injEq, List.cons.injEq, exists_and_left, exists_and_right, exists_eq_left', exists_eq_left, exists_eq_right, exists_eq_right', exists_eq, exists_eq', and_true, true_and, and_assoc, and_self, exists_const, reduceCtorEq]
  exact ⟨cmul_l (by decide) (by decide), cmul_r (by omega) (by omega), cmul_l (by omega) (by omega), cmul_r (by omega) (by omega), hq⟩
theorem over_iff {c d a b g R x : Int} {m : Int} (hg : 0 < g) (hb : 0 < b) (hd : 0 < d) (e1 : c * g = R * d) (e2 : a * g = x * b) : (2 * a * d ≤ m * c * b) ↔ (2 * x ≤ m * R) := by
  have bd := Int.mul_pos hb hd
  constructor
  · intro h
    have := Int.mul_le_mul_of_nonneg_right h (Int.le_of_lt hg)
    have : (2 * x) * (b * d) ≤ (m * R) * (b * d) := by
      calc 2 * x * (b * d) = 2 * (x * b) * d := by ac_rfl
        _ = 2 * (a * g) * d := by rw [e2]
        _ = 2 * a * d * g := by ac_rfl
        _ ≤ m * c * b * g := this
        _ = m * (c * g) * b := by ac_rfl
        _ = m * (R * d) * b := by rw [e1]
        _ = m * R * (b * d) := by ac_rfl
    exact Int.le_of_mul_le_mul_right this bd
  · intro h
    have := Int.mul_le_mul_of_nonneg_right h (Int.le_of_lt bd)
    have : (2 * a * d) * g ≤ (m * c * b) * g := by
      calc 2 * a * d * g = 2 * (a * g) * d := by ac_rfl
        _ = 2 * (x * b) * d := by rw [e2]
        _ = 2 * x * (b * d) := by ac_rfl
        _ ≤ m * R * (b * d) := this
        _ = m * (R * d) * b := by ac_rfl
        _ = m * (c * g) * b := by rw [e1]
        _ = m * c * b * g := by ac_rfl
    exact Int.le_of_mul_le_mul_right this hg
theorem ok_overshoots (T : Txt K mg) : FnOk P w K mg base (L2.CX P w) 1 T.f_overshoots T.fd_overshoots ["space", "drop", "many"] (spOf K 3 (fs_overshoots K)) := by
  refine def_ok T.F_overshoots sc_overshoots (wb := w_overshoots K) pure_overshoots ?_
  intro cdv A outer s H E hr tk
  exact ⟨_, (pss_one (ps_ret (pe_cmpR op_le (pe_op op_mulA (pe_op op_mulA pe_int (pe_ix ix_seq (pv 1) pe_int (fun _ _ => rfl))) (pe_ix ix_seq (pv 0) pe_int (fun _ _ => rfl))) (pe_op op_mulA (pe_op op_mulA (pv 2) (pe_ix ix_seq (pv 0) pe_int (fun _ _ => rfl))) (pe_ix ix_seq (pv 1) pe_int (fun _ _ => rfl))) (nomark _)))),
    (ds_ret (de_op o_le (de_op o_mulA (de_op o_mulA de_int (de_op o_ix (de_var 1) de_int)) (de_op o_ix (de_var 0) de_int)) (de_op o_mulA (de_op o_mulA (de_var 2) (de_op o_ix (de_var 0) de_int)) (de_op o_ix (de_var 1) de_int))))⟩
abbrev s_least_breach : Stmt := topS 47
theorem sc_least_breach : FnScope ["sorts", "thresholds", "join", "i", "j", "space", "drop", "many"] ["sorts", "thresholds", "join"] (defScope s_least_breach) := ⟨rfl, rfl, rfl, by decide +kernel, rfl, by decide +kernel, by decide +kernel⟩
def l1_least_breach (K : PySem.W.Frag) : SW := wFor (wSeq (wCall 2 (fs_onsets K) (wcCons (wVar 1) (wcCons (wCall 3 (fs_grains_of K) (wcCons (wVar 0) (wcCons (wVar 3) (wcCons (wVar 4) wcNil)))) wcNil)))) (wTupT 2 (wConsT (wName 6) (wConsT (wName 7) wNilT))) (wIfS (wB (wCall 3 (fs_overshoots K) (wcCons (wVar 5) (wcCons (wVar 6) (wcCons (wVar 7) wcNil))))) (wRet (wVar 6)) wNext)
def w_least_breach (K : PySem.W.Frag) : SW := (wSq (wAsg (wVar 2) (wTupT 2 (wConsT (wName 3) (wConsT (wName 4) wNilT))))
  (wSq (wAsg (wCall 3 (fs_room_of K) (wcCons (wVar 0) (wcCons (wVar 3) (wcCons (wVar 4) wcNil)))) (wName 5))
  (wSq (l1_least_breach K)
  (wRet (wC .non)))))
/-- the least breach with a join, in grains -/
def leastJ (ss : List So) (ts : List Th) (jo : Jo) : Option Int := match ss[jo.1]?, ss[jo.2]? with
  | some s, some t => leastN ts (grI s.1 t.1) (roomG s t)
  | _, _ => none
def grJ (ss : List So) (jo : Jo) : Int := match ss[jo.1]?, ss[jo.2]? with
  | some s, some t => grI s.1 t.1
  | _, _ => 1
/-- a pair of sorts that may be joined -/
def JoV (ss : List So) (jo : Jo) : Prop := ∃ s t, ss[jo.1]? = some s ∧ ss[jo.2]? = some t ∧ ¬ (s.1 = 0 ∧ t.1 = 0)
def lbD (ss : List So) (ts : List Th) (jo : Jo) : D := match leastJ ss ts jo with | some n => nf n (grJ ss jo) | none => .non
def fs_least_breach (K : PySem.W.Frag) : FS := fun cs q _ => ∃ (ss : List So) (ts : List Th) (jo : Jo), cs = [.dat (sosD ss), .dat (stD ts), .dat (joD jo)] ∧ SoB ss ∧ TsOk ts ∧ JoV ss jo ∧ q (lbD ss ts jo) cs
def InvLb (c0 c1 c2 c3 c4 c5 : Cell) (R : Int) (l : List (Int × Nat)) (i : Nat) (τ : List Cell) : Prop := ∃ c6 c7 : Cell, τ = [c0, c1, c2, c3, c4, c5, c6, c7] ∧ firstB R (l.drop i) = firstB R l
theorem ons_mem : ∀ (l : List Int) (k : Nat) (p : Int × Nat), p ∈ onsN l k → p.2 ≤ k + l.length
  | [], _, p, h => by simp [onsN] at h
  | [x], k, p, h => by
    have : p = (x, k + 1) := by simpa [onsN] using h
    subst this
    exact Nat.le_refl _
  | x :: y :: r, k, p, h => by
    unfold onsN at h
    split at h
    · have := ons_mem (y :: r) (k + 1) p h
      simp only [List.length_cons] at *
      omega
    · rcases List.mem_cons.mp h with rfl | h
      · simp only [List.length_cons]; omega
      · have := ons_mem (y :: r) (k + 1) p h
        simp only [List.length_cons] at *
        omega
theorem pure_least_breach : PureD 3 5 (fs_least_breach K) (w_least_breach K) := by
  rintro cs q e - ⟨ss, ts, jo, rfl, hs, ht, ⟨s, t, e1, e2, hn⟩, hq⟩
  have b1 := hs s (List.mem_of_getElem? e1)
  have b2 := hs t (List.mem_of_getElem? e2)
  obtain ⟨g1, g2, _⟩ := gr_facts b1.1 b1.2.1 b2.1 b2.2.1 (by omega)
  obtain ⟨r0, r1⟩ := roomG_b b1 b2 hn
  obtain ⟨u, eu, u1, u2, u3, u4⟩ := nf_th (x := roomG s t) (g := grI s.1 t.1) (by omega)
  have el : leastJ ss ts jo = leastN ts (grI s.1 t.1) (roomG s t) := by unfold leastJ; rw [e1, e2]
  have eg : grJ ss jo = grI s.1 t.1 := by unfold grJ; rw [e1, e2]
  unfold lbD at hq
  rw [el, eg] at hq
  have er := room_nf b1 b2 hn
  rw [eu] at er
  generalize hG : grI s.1 t.1 = G at *
  generalize hR : roomG s t = R at *
  generalize hL : onsN (ts.map (stpI G)) 0 = L at *
  have fin : leastN ts G R = firstB R L := by unfold leastN; rw [hL]
  rw [fin] at hq
  have p2b : ∀ p ∈ L, p.2 ≤ 6 := fun p hp => by
    rw [← hL] at hp
    have := ons_mem (ts.map (stpI G)) 0 p hp
    rw [List.length_map] at this
    have := ht.2.1
    omega
  simp only [w_least_breach, fs_room_of, wTupT, wConsT, joD, gIsB, gNotB, D.adr.injEq, Cont.pool.injEq, ixN31, ne_eq, List.map_cons, List.map_nil, wPoolOpen, wPoolClose, wPop0, wPopTo, wListOwn, wRemove, wRaise0, wRaise1, wAugOwn, wEnumL, wTru, wSlA, gCatA, gLtT, gLeT, wFrz, wChain3, wAttr, wMkF, wEnumT, wRevT, wDict0, wDict1, numD3, Nat.reduceAdd, atI0, atI1, atI2, atI3, atI4, ixN51, ixN52, ixN53, List.length_map, wNever, scal, V.int.injEq, V.str.injEq, V.bl.injEq, wSq, wNext, wBreak, wCont, wDrop, wRet, wRetN, wIfS, wAsg, wPar, wLstOwn, wAppend, wSetOwn, wIxOwn, wPeek, wRetOwn, wRetFr, wFor, wB, wNot, wAnd, wOr, wAndV, wOrV, wNotV, wIf, wChain, wNil, wCons, wCB, wTup, wLst, wNoPart, wPart, wSlT, wSlL, wSeq, wRng1, wRng2, wZip, wName, wNilT, wConsT, wTupT, wYes, wNeg, wVar, wC, wOp, wcNil, wcCons, wcOwn, wCall, wCallOwn, slots, cellsOf, OwnArgs, putBack, g2I, g2IC, gLen, gAbs, gGcd, gInt1, gTupleOf, gListOf, gIx, gCatT, gCat, gEq, gNe, gIsN, gNotN, scD, seqD_t, seqD_l, seqD_f, isNonD, List.nodup_cons, List.mem_cons, List.not_mem_nil, or_false, not_false_eq_true, Nat.reduceEqDiff, L3.Keeps, ends, wipeD, List.replicate, List.cons_append, List.nil_append, List.append_nil, List.getElem?_cons_zero, List.getElem?_cons_succ, List.set_cons_zero, List.set_cons_succ, List.getD_cons_zero, List.getD_cons_succ, List.length_cons, List.length_nil, List.nodup_nil, Option.some.injEq, Cell.dat.injEq, Cell.own.injEq, Cont.lst.injEq, D.bl.injEq, D.int.injEq, D.str.injEq, D.tup.injEq, D.lst.injEq, Arg.d.injEq, List.cons.injEq, exists_and_left, exists_and_right, exists_eq_left', exists_eq_left, exists_eq_right, exists_eq_right', exists_eq, exists_eq', and_true, true_and, and_assoc, and_self, exists_const, reduceCtorEq]
  refine ⟨ss, rfl, _, rfl, _, rfl, s, e1, t, e2, hs, ?_⟩
  unfold l1_least_breach wFor
  simp only [fs_onsets, fs_grains_of, gIsB, gNotB, D.adr.injEq, Cont.pool.injEq, ixN31, ne_eq, List.map_cons, List.map_nil, wPoolOpen, wPoolClose, wPop0, wPopTo, wListOwn, wRemove, wRaise0, wRaise1, wAugOwn, wEnumL, wTru, wSlA, gCatA, gLtT, gLeT, wFrz, wChain3, wAttr, wMkF, wEnumT, wRevT, wDict0, wDict1, numD3, Nat.reduceAdd, atI0, atI1, atI2, atI3, atI4, ixN51, ixN52, ixN53, List.length_map, wNever, scal, V.int.injEq, V.str.injEq, V.bl.injEq, wSq, wNext, wBreak, wCont, wDrop, wRet, wRetN, wIfS, wAsg, wPar, wLstOwn, wAppend, wSetOwn, wIxOwn, wPeek, wRetOwn, wRetFr, wFor, wB, wNot, wAnd, wOr, wAndV, wOrV, wNotV, wIf, wChain, wNil, wCons, wCB, wTup, wLst, wNoPart, wPart, wSlT, wSlL, wSeq, wRng1, wRng2, wZip, wName, wNilT, wConsT, wTupT, wYes, wNeg, wVar, wC, wOp, wcNil, wcCons, wcOwn, wCall, wCallOwn, slots, cellsOf, OwnArgs, putBack, g2I, g2IC, gLen, gAbs, gGcd, gInt1, gTupleOf, gListOf, gIx, gCatT, gCat, gEq, gNe, gIsN, gNotN, scD, seqD_t, seqD_l, seqD_f, isNonD, List.nodup_cons, List.mem_cons, List.not_mem_nil, or_false, not_false_eq_true, Nat.reduceEqDiff, L3.Keeps, ends, wipeD, List.replicate, List.cons_append, List.nil_append, List.append_nil, List.getElem?_cons_zero, List.getElem?_cons_succ, List.set_cons_zero, List.set_cons_succ, List.getD_cons_zero, List.getD_cons_succ, List.length_cons, List.length_nil, List.nodup_nil, Option.some.injEq, Cell.dat.injEq, Cell.own.injEq, Cont.lst.injEq, D.bl.injEq, D.int.injEq, D.str.injEq, D.tup.injEq, D.lst.injEq, Arg.d.injEq, List.cons.injEq, exists_and_left, exists_and_right, exists_eq_left', exists_eq_left, exists_eq_right, exists_eq_right', exists_eq, exists_eq', and_true, true_and, and_assoc, and_self, exists_const, reduceCtorEq]
  refine ⟨ss, rfl, _, rfl, _, rfl, s, e1, t, e2, hs, hn, ts, rfl, ht.2.1, ht.2.2.1, by omega, by omega, ?_⟩
  rw [hG, hL, er]
  refine ⟨InvLb (.dat (sosD ss)) (.dat (stD ts)) (.dat (.tup [.int jo.1, .int jo.2])) (.dat (.int jo.1)) (.dat (.int jo.2)) (.dat (thD u)) R L, ⟨_, _, rfl, rfl⟩, ?_, ?_⟩
  · rintro i d τ2 hd ⟨c6, c7, rfl, hf⟩
    rw [List.getElem?_map] at hd
    obtain ⟨p, ep, rfl⟩ := Option.map_eq_some_iff.mp hd
    have hi := (List.getElem?_eq_some_iff.mp ep).1
    have pe : L[i] = p := Option.some.inj ((List.getElem?_eq_getElem hi).symm.trans ep)
    have dr : L.drop i = p :: L.drop (i + 1) := by rw [List.drop_eq_getElem_cons hi, pe]
    have pb := p2b p (List.mem_of_getElem? ep)
    obtain ⟨v, ev, v1, v2, v3, v4⟩ := nf_th (x := p.1) (g := G) (by omega)
    have fb : firstB R (L.drop i) = if 2 * p.1 ≤ (p.2 : Int) * R then some p.1 else firstB R (L.drop (i + 1)) := by
      rw [dr]
      unfold firstB
      rw [List.find?_cons]
      by_cases z : 2 * p.1 ≤ (p.2 : Int) * R
      · rw [decide_eq_true z, if_pos z]; rfl
      · rw [decide_eq_false z, if_neg z]
    have oi := over_iff (m := (p.2 : Int)) (by omega) v2 u2 u1 v1
    simp only [fs_overshoots, onD, ev, thD, gIsB, gNotB, D.adr.injEq, Cont.pool.injEq, ixN31, ne_eq, List.map_cons, List.map_nil, wPoolOpen, wPoolClose, wPop0, wPopTo, wListOwn, wRemove, wRaise0, wRaise1, wAugOwn, wEnumL, wTru, wSlA, gCatA, gLtT, gLeT, wFrz, wChain3, wAttr, wMkF, wEnumT, wRevT, wDict0, wDict1, numD3, Nat.reduceAdd, atI0, atI1, atI2, atI3, atI4, ixN51, ixN52, ixN53, List.length_map, wNever, scal, V.int.injEq, V.str.injEq, V.bl.injEq, wSq, wNext, wBreak, wCont, wDrop, wRet, wRetN, wIfS, wAsg, wPar, wLstOwn, wAppend, wSetOwn, wIxOwn, wPeek, wRetOwn, wRetFr, wFor, wB, wNot, wAnd, wOr, wAndV, wOrV, wNotV, wIf, wChain, wNil, wCons, wCB, wTup, wLst, wNoPart, wPart, wSlT, wSlL, wSeq, wRng1, wRng2, wZip, wName, wNilT, wConsT, wTupT, wYes, wNeg, wVar, wC, wOp, wcNil, wcCons, wcOwn, wCall, wCallOwn, slots, cellsOf, OwnArgs, putBack, g2I, g2IC, gLen, gAbs, gGcd, gInt1, gTupleOf, gListOf, gIx, gCatT, gCat, gEq, gNe, gIsN, gNotN, scD, seqD_t, seqD_l, seqD_f, isNonD, List.nodup_cons, List.mem_cons, List.not_mem_nil, or_false, not_false_eq_true, Nat.reduceEqDiff, L3.Keeps, ends, wipeD, List.replicate, List.cons_append, List.nil_append, List.append_nil, List.getElem?_cons_zero, List.getElem?_cons_succ, List.set_cons_zero, List.set_cons_succ, List.getD_cons_zero, List.getD_cons_succ, List.length_cons, List.length_nil, List.nodup_nil, Option.some.injEq, Cell.dat.injEq, Cell.own.injEq, Cont.lst.injEq, D.bl.injEq, D.int.injEq, D.str.injEq, D.tup.injEq, D.lst.injEq, Arg.d.injEq, List.cons.injEq, exists_and_left, exists_and_right, exists_eq_left', exists_eq_left, exists_eq_right, exists_eq_right', exists_eq, exists_eq', and_true, true_and, and_assoc, and_self, exists_const, reduceCtorEq]
    refine ⟨by omega, by omega, by omega, by omega, fun z => ?_, fun z => ?_⟩
    · have z := oi.mp (of_decide_eq_true z)
      rw [if_pos z, hf] at fb
      rw [fb] at hq
      have hq : q (nf p.1 G) [.dat (sosD ss), .dat (stD ts), .dat (joD jo)] := hq
      rw [ev] at hq
      exact hq
    · have z : ¬ 2 * p.1 ≤ (p.2 : Int) * R := fun y => of_decide_eq_false z (oi.mpr y)
      rw [if_neg z, hf] at fb
      exact ⟨_, _, rfl, fb.symm⟩
  · rintro τ2 ⟨c6, c7, rfl, hf⟩
    have e0 : firstB R (L.drop L.length) = none := by rw [List.drop_length]; rfl
    rw [e0] at hf
    rw [← hf] at hq
    simp only [gIsB, gNotB, D.adr.injEq, Cont.pool.injEq, ixN31, ne_eq, List.map_cons, List.map_nil, wPoolOpen, wPoolClose, wPop0, wPopTo, wListOwn, wRemove, wRaise0, wRaise1, wAugOwn, wEnumL, wTru, wSlA, gCatA, gLtT, gLeT, wFrz, wChain3, wAttr, wMkF, wEnumT, wRevT, wDict0, wDict1, numD3, Nat.reduceAdd, atI0, atI1, atI2, atI3, atI4, ixN51, ixN52, ixN53, List.length_map, wNever, scal, V.int.injEq, V.str.injEq, V.bl.injEq, wSq, wNext, wBreak, wCont, wDrop, wRet, wRetN, wIfS, wAsg, wPar, wLstOwn, wAppend, wSetOwn, wIxOwn, wPeek, wRetOwn, wRetFr, wFor, wB, wNot, wAnd, wOr, wAndV, wOrV, wNotV, wIf, wChain, wNil, wCons, wCB, wTup, wLst, wNoPart, wPart, wSlT, wSlL, wSeq, wRng1, wRng2, wZip, wName, wNilT, wConsT, wTupT, wYes, wNeg, wVar, wC, wOp, wcNil, wcCons, wcOwn, wCall, wCallOwn, slots, cellsOf, OwnArgs, putBack, g2I, g2IC, gLen, gAbs, gGcd, gInt1, gTupleOf, gListOf, gIx, gCatT, gCat, gEq, gNe, gIsN, gNotN, scD, seqD_t, seqD_l, seqD_f, isNonD, List.nodup_cons, List.mem_cons, List.not_mem_nil, or_false, not_false_eq_true, Nat.reduceEqDiff, L3.Keeps, ends, wipeD, List.replicate, List.cons_append, List.nil_append, List.append_nil, List.getElem?_cons_zero, List.getElem?_cons_succ, List.set_cons_zero, List.set_cons_succ, List.getD_cons_zero, List.getD_cons_succ, List.length_cons, List.length_nil, List.nodup_nil, Option.some.injEq, Cell.dat.injEq, Cell.own.injEq, Cont.lst.injEq, D.bl.injEq, D.int.injEq, D.str.injEq, D.tup.injEq, D.lst.injEq, Arg.d.injEq, List.cons.injEq, exists_and_left, exists_and_right, exists_eq_left', exists_eq_left, exists_eq_right, exists_eq_right', exists_eq, exists_eq', and_true, true_and, and_assoc, and_self, exists_const, reduceCtorEq]
    exact hq
theorem ok_least_breach (T : Txt K mg) : FnOk P w K mg base (L2.CX P w) 4 T.f_least_breach T.fd_least_breach ["sorts", "thresholds", "join"] (spOf K 3 (fs_least_breach K)) := by
  refine def_ok T.F_least_breach sc_least_breach (wb := w_least_breach K) pure_least_breach ?_
  intro cdv A outer s H E hr tk
  exact ⟨_, (pss_cons (ps_asg (pv 2) (pg_tup (by rfl) (pgs_cons (pg_name (i := 3) sc_least_breach.nd rfl (by first | exact Or.inl rfl | exact Or.inr rfl)) (pgs_cons (pg_name (i := 4) sc_least_breach.nd rfl (by first | exact Or.inl rfl | exact Or.inr rfl)) pgs_nil))))
      (pss_cons (ps_set (i := 5) sc_least_breach.nd rfl (by first | exact Or.inl rfl | exact Or.inr rfl) (pe_callS (ok_room_of T) (hr.mono (by decide)) rfl T.g_room_of T.k_room_of T.b_room_of (fun σ => passAt tk σ) (pa_cons (pv 0) (pa_cons (pv 3) (pa_cons (pv 4) pa_nil)))))
      (pss_cons (ps_for (passes_of rfl) rfl (pi_seq (pe_callS (ok_onsets T) (hr.mono (by decide)) rfl T.g_onsets T.k_onsets T.b_onsets (fun σ => passAt tk σ) (pa_cons (pv 1) (pa_cons (pe_callS (ok_grains_of T) (hr.mono (by decide)) rfl T.g_grains_of T.k_grains_of T.b_grains_of (fun σ => passAt tk σ) (pa_cons (pv 0) (pa_cons (pv 3) (pa_cons (pv 4) pa_nil)))) pa_nil)))) (pg_tup (by rfl) (pgs_cons (pg_name (i := 6) sc_least_breach.nd rfl (by first | exact Or.inl rfl | exact Or.inr rfl)) (pgs_cons (pg_name (i := 7) sc_least_breach.nd rfl (by first | exact Or.inl rfl | exact Or.inr rfl)) pgs_nil)))
        (pss_one (ps_if (pt_val (pe_callS (ok_overshoots T) (hr.mono (by decide)) rfl T.g_overshoots T.k_overshoots T.b_overshoots (fun σ => passAt tk σ) (pa_cons (pv 5) (pa_cons (pv 6) (pa_cons (pv 7) pa_nil)))))
        (pss_one (ps_ret (pv 6)))
        pss_nil)))
      (pss_one (ps_ret pe_non))))),
    (ds_seq (ds_asg (de_var 2) (dg_tup (n := 2) (dgs_cons (dg_name 3) (dgs_cons (dg_name 4) dgs_nil))))
      (ds_seq (ds_asg (de_call (n := 3) (fs := fs_room_of K) (dac_cons (de_var 0) (dac_cons (de_var 3) (dac_cons (de_var 4) dac_nil)))) (dg_name 5))
      (ds_seq (ds_for (wI := (wSeq (wCall 2 (fs_onsets K) (wcCons (wVar 1) (wcCons (wCall 3 (fs_grains_of K) (wcCons (wVar 0) (wcCons (wVar 3) (wcCons (wVar 4) wcNil)))) wcNil))))) (wg := (wTupT 2 (wConsT (wName 6) (wConsT (wName 7) wNilT)))) (wb := (wIfS (wB (wCall 3 (fs_overshoots K) (wcCons (wVar 5) (wcCons (wVar 6) (wcCons (wVar 7) wcNil))))) (wRet (wVar 6)) wNext)) (di_seq (de_call (n := 2) (fs := fs_onsets K) (dac_cons (de_var 1) (dac_cons (de_call (n := 3) (fs := fs_grains_of K) (dac_cons (de_var 0) (dac_cons (de_var 3) (dac_cons (de_var 4) dac_nil)))) dac_nil)))) (dg_tup (n := 2) (dgs_cons (dg_name 6) (dgs_cons (dg_name 7) dgs_nil))) (ds_if (dt_B (de_call (n := 3) (fs := fs_overshoots K) (dac_cons (de_var 5) (dac_cons (de_var 6) (dac_cons (de_var 7) dac_nil))))) (ds_ret (de_var 6)) ds_nil))
      (ds_ret de_non))))⟩
abbrev s_calm_kind : Stmt := topS 48
theorem sc_calm_kind : FnScope ["sorts", "kind", "thresholds", "joins", "join"] ["sorts", "kind"] (defScope s_calm_kind) := ⟨rfl, rfl, rfl, by decide +kernel, rfl, by decide +kernel, by decide +kernel⟩
def c1_calm_kind (K : PySem.W.Frag) : EW := wLc (wSeq (wVar 3)) (wName 4) wYes (wOp gIsN (wCall 3 (fs_least_breach K) (wcCons (wVar 0) (wcCons (wVar 2) (wcCons (wVar 4) wcNil)))) (wC .non)) [4]
def w_calm_kind (K : PySem.W.Frag) : SW := (wSq (wAsg (wVar 1) (wTupT 2 (wConsT (wName 2) (wConsT (wName 3) wNilT))))
  (wRet (wCB gAll (wCons (c1_calm_kind K) wNil))))
def calmK (ss : List So) (k : Ki) : Bool := k.2.all fun jo => (leastJ ss k.1 jo).isNone
def KiV (ss : List So) (k : Ki) : Prop := TsOk k.1 ∧ k.2.length ≤ 900 ∧ ∀ jo ∈ k.2, JoV ss jo
def fs_calm_kind (K : PySem.W.Frag) : FS := fun cs q _ => ∃ (ss : List So) (k : Ki), cs = [.dat (sosD ss), .dat (kiD k)] ∧ SoB ss ∧ KiV ss k ∧ q (.bl (calmK ss k)) cs
theorem lb_non {ss : List So} {ts : List Th} {jo : Jo} : isNonD (lbD ss ts jo) = (leastJ ss ts jo).isNone := by
  unfold lbD
  cases leastJ ss ts jo with
  | none => rfl
  | some n => rfl
def InvCk (ss : List So) (k : Ki) (c1 : Cell) (i : Nat) (acc : List D) (τ : List Cell) : Prop := acc = ((k.2.take i).map fun jo => (leastJ ss k.1 jo).isNone).map D.bl ∧ τ = [.dat (sosD ss), c1, .dat (stD k.1), .dat (.tup (k.2.map joD)), .any]
theorem c1_calm_kind_ok {ss : List So} {k : Ki} {c1 c4 : Cell} {q : D → List Cell → Prop} {e : Xn → List Cell → Prop} (hs : SoB ss) (hk : KiV ss k)
    (hq : q (.lst ((k.2.map fun jo => (leastJ ss k.1 jo).isNone).map D.bl)) [.dat (sosD ss), c1, .dat (stD k.1), .dat (.tup (k.2.map joD)), .any]) : c1_calm_kind K [.dat (sosD ss), c1, .dat (stD k.1), .dat (.tup (k.2.map joD)), c4] q e := by
  unfold c1_calm_kind wLc
  simp only [fs_least_breach, gIsB, gNotB, D.adr.injEq, Cont.pool.injEq, ixN31, ne_eq, List.map_cons, List.map_nil, wPoolOpen, wPoolClose, wPop0, wPopTo, wListOwn, wRemove, wRaise0, wRaise1, wAugOwn, wEnumL, wTru, wSlA, gCatA, gLtT, gLeT, wFrz, wChain3, wAttr, wMkF, wEnumT, wRevT, wDict0, wDict1, numD3, Nat.reduceAdd, atI0, atI1, atI2, atI3, atI4, ixN51, ixN52, ixN53, List.length_map, wNever, scal, V.int.injEq, V.str.injEq, V.bl.injEq, wSq, wNext, wBreak, wCont, wDrop, wRet, wRetN, wIfS, wAsg, wPar, wLstOwn, wAppend, wSetOwn, wIxOwn, wPeek, wRetOwn, wRetFr, wFor, wB, wNot, wAnd, wOr, wAndV, wOrV, wNotV, wIf, wChain, wNil, wCons, wCB, wTup, wLst, wNoPart, wPart, wSlT, wSlL, wSeq, wRng1, wRng2, wZip, wName, wNilT, wConsT, wTupT, wYes, wNeg, wVar, wC, wOp, wcNil, wcCons, wcOwn, wCall, wCallOwn, slots, cellsOf, OwnArgs, putBack, g2I, g2IC, gLen, gAbs, gGcd, gInt1, gTupleOf, gListOf, gIx, gCatT, gCat, gEq, gNe, gIsN, gNotN, scD, seqD_t, seqD_l, seqD_f, isNonD, List.nodup_cons, List.mem_cons, List.not_mem_nil, or_false, not_false_eq_true, Nat.reduceEqDiff, L3.Keeps, ends, wipeD, List.replicate, List.cons_append, List.nil_append, List.append_nil, List.getElem?_cons_zero, List.getElem?_cons_succ, List.set_cons_zero, List.set_cons_succ, List.getD_cons_zero, List.getD_cons_succ, List.length_cons, List.length_nil, List.nodup_nil, Option.some.injEq, Cell.dat.injEq, Cell.own.injEq, Cont.lst.injEq, D.bl.injEq, D.int.injEq, D.str.injEq, D.tup.injEq, D.lst.injEq, Arg.d.injEq, List.cons.injEq, exists_and_left, exists_and_right, exists_eq_left', exists_eq_left, exists_eq_right, exists_eq_right', exists_eq, exists_eq', and_true, true_and, and_assoc, and_self, exists_const, reduceCtorEq]
  refine ⟨by have := hk.2.1; omega, InvCk ss k c1, ⟨rfl, rfl⟩, ?_, ?_⟩
  · rintro i d acc τ2 hd ⟨rfl, rfl⟩ -
    rw [List.getElem?_map] at hd
    obtain ⟨jo, ej, rfl⟩ := Option.map_eq_some_iff.mp hd
    have tk : k.2.take (i + 1) = k.2.take i ++ [jo] := by rw [List.take_add_one, ej]; rfl
    simp only [gIsB, gNotB, D.adr.injEq, Cont.pool.injEq, ixN31, ne_eq, List.map_cons, List.map_nil, wPoolOpen, wPoolClose, wPop0, wPopTo, wListOwn, wRemove, wRaise0, wRaise1, wAugOwn, wEnumL, wTru, wSlA, gCatA, gLtT, gLeT, wFrz, wChain3, wAttr, wMkF, wEnumT, wRevT, wDict0, wDict1, numD3, Nat.reduceAdd, atI0, atI1, atI2, atI3, atI4, ixN51, ixN52, ixN53, List.length_map, wNever, scal, V.int.injEq, V.str.injEq, V.bl.injEq, wSq, wNext, wBreak, wCont, wDrop, wRet, wRetN, wIfS, wAsg, wPar, wLstOwn, wAppend, wSetOwn, wIxOwn, wPeek, wRetOwn, wRetFr, wFor, wB, wNot, wAnd, wOr, wAndV, wOrV, wNotV, wIf, wChain, wNil, wCons, wCB, wTup, wLst, wNoPart, wPart, wSlT, wSlL, wSeq, wRng1, wRng2, wZip, wName, wNilT, wConsT, wTupT, wYes, wNeg, wVar, wC, wOp, wcNil, wcCons, wcOwn, wCall, wCallOwn, slots, cellsOf, OwnArgs, putBack, g2I, g2IC, gLen, gAbs, gGcd, gInt1, gTupleOf, gListOf, gIx, gCatT, gCat, gEq, gNe, gIsN, gNotN, scD, seqD_t, seqD_l, seqD_f, isNonD, List.nodup_cons, List.mem_cons, List.not_mem_nil, or_false, not_false_eq_true, Nat.reduceEqDiff, L3.Keeps, ends, wipeD, List.replicate, List.cons_append, List.nil_append, List.append_nil, List.getElem?_cons_zero, List.getElem?_cons_succ, List.set_cons_zero, List.set_cons_succ, List.getD_cons_zero, List.getD_cons_succ, List.length_cons, List.length_nil, List.nodup_nil, Option.some.injEq, Cell.dat.injEq, Cell.own.injEq, Cont.lst.injEq, D.bl.injEq, D.int.injEq, D.str.injEq, D.tup.injEq, D.lst.injEq, Arg.d.injEq, List.cons.injEq, exists_and_left, exists_and_right, exists_eq_left', exists_eq_left, exists_eq_right, exists_eq_right', exists_eq, exists_eq', and_true, true_and, and_assoc, and_self, exists_const, reduceCtorEq]
    refine ⟨fun _ => ⟨ss, rfl, k.1, rfl, jo, rfl, hs, hk.1, hk.2.2 jo (List.mem_of_getElem? ej), ?_, rfl⟩, fun z => z.elim⟩
    rw [tk, List.map_append, List.map_append]
    exact congrArg (fun b => List.map D.bl (List.map (fun jo => (leastJ ss k.1 jo).isNone) (List.take i k.2)) ++ [D.bl b]) lb_non
  · rintro acc τ2 ⟨rfl, e⟩ -
    rw [List.take_length, e]
    exact hq
theorem pure_calm_kind : PureD 2 3 (fs_calm_kind K) (w_calm_kind K) := by
  rintro cs q e - ⟨ss, k, rfl, hs, hk, hq⟩
  unfold kiD at hq
  simp only [w_calm_kind, kiD, wTupT, wConsT, gIsB, gNotB, D.adr.injEq, Cont.pool.injEq, ixN31, ne_eq, List.map_cons, List.map_nil, wPoolOpen, wPoolClose, wPop0, wPopTo, wListOwn, wRemove, wRaise0, wRaise1, wAugOwn, wEnumL, wTru, wSlA, gCatA, gLtT, gLeT, wFrz, wChain3, wAttr, wMkF, wEnumT, wRevT, wDict0, wDict1, numD3, Nat.reduceAdd, atI0, atI1, atI2, atI3, atI4, ixN51, ixN52, ixN53, List.length_map, wNever, scal, V.int.injEq, V.str.injEq, V.bl.injEq, wSq, wNext, wBreak, wCont, wDrop, wRet, wRetN, wIfS, wAsg, wPar, wLstOwn, wAppend, wSetOwn, wIxOwn, wPeek, wRetOwn, wRetFr, wFor, wB, wNot, wAnd, wOr, wAndV, wOrV, wNotV, wIf, wChain, wNil, wCons, wCB, wTup, wLst, wNoPart, wPart, wSlT, wSlL, wSeq, wRng1, wRng2, wZip, wName, wNilT, wConsT, wTupT, wYes, wNeg, wVar, wC, wOp, wcNil, wcCons, wcOwn, wCall, wCallOwn, slots, cellsOf, OwnArgs, putBack, g2I, g2IC, gLen, gAbs, gGcd, gInt1, gTupleOf, gListOf, gIx, gCatT, gCat, gEq, gNe, gIsN, gNotN, scD, seqD_t, seqD_l, seqD_f, isNonD, List.nodup_cons, List.mem_cons, List.not_mem_nil, or_false, not_false_eq_true, Nat.reduceEqDiff, L3.Keeps, ends, wipeD, List.replicate, List.cons_append, List.nil_append, List.append_nil, List.getElem?_cons_zero, List.getElem?_cons_succ, List.set_cons_zero, List.set_cons_succ, List.getD_cons_zero, List.getD_cons_succ, List.length_cons, List.length_nil, List.nodup_nil, Option.some.injEq, Cell.dat.injEq, Cell.own.injEq, Cont.lst.injEq, D.bl.injEq, D.int.injEq, D.str.injEq, D.tup.injEq, D.lst.injEq, Arg.d.injEq, List.cons.injEq, exists_and_left, exists_and_right, exists_eq_left', exists_eq_left, exists_eq_right, exists_eq_right', exists_eq, exists_eq', and_true, true_and, and_assoc, and_self, exists_const, reduceCtorEq]
  refine c1_calm_kind_ok hs hk ?_
  simp only [gIsB, gNotB, D.adr.injEq, Cont.pool.injEq, ixN31, ne_eq, List.map_cons, List.map_nil, wPoolOpen, wPoolClose, wPop0, wPopTo, wListOwn, wRemove, wRaise0, wRaise1, wAugOwn, wEnumL, wTru, wSlA, gCatA, gLtT, gLeT, wFrz, wChain3, wAttr, wMkF, wEnumT, wRevT, wDict0, wDict1, numD3, Nat.reduceAdd, atI0, atI1, atI2, atI3, atI4, ixN51, ixN52, ixN53, List.length_map, wNever, scal, V.int.injEq, V.str.injEq, V.bl.injEq, wSq, wNext, wBreak, wCont, wDrop, wRet, wRetN, wIfS, wAsg, wPar, wLstOwn, wAppend, wSetOwn, wIxOwn, wPeek, wRetOwn, wRetFr, wFor, wB, wNot, wAnd, wOr, wAndV, wOrV, wNotV, wIf, wChain, wNil, wCons, wCB, wTup, wLst, wNoPart, wPart, wSlT, wSlL, wSeq, wRng1, wRng2, wZip, wName, wNilT, wConsT, wTupT, wYes, wNeg, wVar, wC, wOp, wcNil, wcCons, wcOwn, wCall, wCallOwn, slots, cellsOf, OwnArgs, putBack, g2I, g2IC, gLen, gAbs, gGcd, gInt1, gTupleOf, gListOf, gIx, gCatT, gCat, gEq, gNe, gIsN, gNotN, scD, seqD_t, seqD_l, seqD_f, isNonD, List.nodup_cons, List.mem_cons, List.not_mem_nil, or_false, not_false_eq_true, Nat.reduceEqDiff, L3.Keeps, ends, wipeD, List.replicate, List.cons_append, List.nil_append, List.append_nil, List.getElem?_cons_zero, List.getElem?_cons_succ, List.set_cons_zero, List.set_cons_succ, List.getD_cons_zero, List.getD_cons_succ, List.length_cons, List.length_nil, List.nodup_nil, Option.some.injEq, Cell.dat.injEq, Cell.own.injEq, Cont.lst.injEq, D.bl.injEq, D.int.injEq, D.str.injEq, D.tup.injEq, D.lst.injEq, Arg.d.injEq, List.cons.injEq, exists_and_left, exists_and_right, exists_eq_left', exists_eq_left, exists_eq_right, exists_eq_right', exists_eq, exists_eq', and_true, true_and, and_assoc, and_self, exists_const, reduceCtorEq]
  refine ⟨_, _, .inl rfl, rfl, ?_⟩
  have e1 : (k.2.map fun jo => (leastJ ss k.1 jo).isNone).all id = calmK ss k := by unfold calmK; simp
  rw [e1]
  exact hq
theorem ok_calm_kind (T : Txt K mg) : FnOk P w K mg base (L2.CX P w) 5 T.f_calm_kind T.fd_calm_kind ["sorts", "kind"] (spOf K 2 (fs_calm_kind K)) := by
  refine def_ok T.F_calm_kind sc_calm_kind (wb := w_calm_kind K) pure_calm_kind ?_
  intro cdv A outer s H E hr tk
  exact ⟨_, (pss_cons (ps_asg (pv 1) (pg_tup (by rfl) (pgs_cons (pg_name (i := 2) sc_calm_kind.nd rfl (by first | exact Or.inl rfl | exact Or.inr rfl)) (pgs_cons (pg_name (i := 3) sc_calm_kind.nd rfl (by first | exact Or.inl rfl | exact Or.inr rfl)) pgs_nil))))
      (pss_one (ps_ret (pe_callB (cr_all (by rfl)) (by rfl) T.z_all (by decide +kernel) (pa_cons (pe_lc (own := [("join", 4)]) (g := (gName 4)) (tt := tYes) (te := (tOp rIsN (tCallS (spOf K 3 (fs_least_breach K)) (L2.WE W0) (tCons (tVar 0) (tCons (tVar 2) (tCons (tVar 4) tNil)))) (tC .non))) rfl sc_calm_kind.nd (pi_seq (pv 3)) (blkOk_by (N := ["sorts", "kind", "thresholds", "joins", "join"]) (sc := defScope s_calm_kind) (by decide +kernel)) (fun _ _ _ _ _ => (pg_name (i := 4) sc_calm_kind.nd rfl (by first | exact Or.inl rfl | exact Or.inr rfl))) (fun _ _ _ _ _ => pts_nil) (fun _ _ _ _ _ => (pe_cmpR op_isN (pe_callS (ok_least_breach T) (hr.mono (by decide)) rfl T.g_least_breach T.k_least_breach T.b_least_breach (fun σ => passAt L2.takes0 σ) (pa_cons (pv 0) (pa_cons (pv 2) (pa_cons (pv 4) pa_nil)))) pe_non (nomark _)))) pa_nil))))),
    (ds_seq (ds_asg (de_var 1) (dg_tup (n := 2) (dgs_cons (dg_name 2) (dgs_cons (dg_name 3) dgs_nil))))
      (ds_ret (de_cb o_all (da_cons (de_lc (vs := [4]) (wI := (wSeq (wVar 3))) (wg := (wName 4)) (wt := wYes) (we := (wOp gIsN (wCall 3 (fs_least_breach K) (wcCons (wVar 0) (wcCons (wVar 2) (wcCons (wVar 4) wcNil)))) (wC .non))) (di_seq (de_var 3)) (dg_name 4) dt_yes (de_op o_isN (de_call (n := 3) (fs := fs_least_breach K) (dac_cons (de_var 0) (dac_cons (de_var 2) (dac_cons (de_var 4) dac_nil)))) de_non) (by decide)) da_nil))))⟩
abbrev s_calm : Stmt := topS 50
theorem sc_calm : FnScope ["book", "kind"] ["book"] (defScope s_calm) := ⟨rfl, rfl, rfl, by decide +kernel, rfl, by decide +kernel, by decide +kernel⟩
def c1_calm (K : PySem.W.Frag) (Z : CT) : EW := wLc (wSeq (wAttr Z.C_Book "kinds" (wVar 0))) (wName 1) wYes (wCall 2 (fs_calm_kind K) (wcCons (wAttr Z.C_Book "sorts" (wVar 0)) (wcCons (wVar 1) wcNil))) [1]
def w_calm (K : PySem.W.Frag) (Z : CT) : SW := (wRet (wCB gAll (wCons (c1_calm K Z) wNil)))
structure BkV (ss : List So) (ks : List Ki) : Prop where
  s : SoB ss
  l : ks.length ≤ 5
  k : ∀ k ∈ ks, KiV ss k
def calmB (ss : List So) (ks : List Ki) : Bool := ks.all (calmK ss)
def fs_calm (K : PySem.W.Frag) (Z : CT) : FS := fun cs q _ => ∃ (ss : List So) (ks : List Ki), cs = [.dat (bookI Z (sosD ss) (kisD ks))] ∧ BkV ss ks ∧ q (.bl (calmB ss ks)) cs
def InvCa (Z : CT) (ss : List So) (ks : List Ki) (i : Nat) (acc : List D) (τ : List Cell) : Prop := acc = ((ks.take i).map (calmK ss)).map D.bl ∧ τ = [.dat (bookI Z (sosD ss) (kisD ks)), .any]
theorem c1_calm_ok {Z : CT} {ss : List So} {ks : List Ki} {c1 : Cell} {q : D → List Cell → Prop} {e : Xn → List Cell → Prop} (hb : BkV ss ks)
    (hq : q (.lst ((ks.map (calmK ss)).map D.bl)) [.dat (bookI Z (sosD ss) (kisD ks)), .any]) : c1_calm K Z [.dat (bookI Z (sosD ss) (kisD ks)), c1] q e := by
  unfold c1_calm wLc
  simp only [fs_calm_kind, gIsB, gNotB, D.adr.injEq, Cont.pool.injEq, ixN31, ne_eq, List.map_cons, List.map_nil, wPoolOpen, wPoolClose, wPop0, wPopTo, wListOwn, wRemove, wRaise0, wRaise1, wAugOwn, wEnumL, wTru, wSlA, gCatA, gLtT, gLeT, wFrz, wChain3, wAttr, wMkF, wEnumT, wRevT, wDict0, wDict1, numD3, Nat.reduceAdd, atI0, atI1, atI2, atI3, atI4, ixN51, ixN52, ixN53, List.length_map, wNever, scal, V.int.injEq, V.str.injEq, V.bl.injEq, wSq, wNext, wBreak, wCont, wDrop, wRet, wRetN, wIfS, wAsg, wPar, wLstOwn, wAppend, wSetOwn, wIxOwn, wPeek, wRetOwn, wRetFr, wFor, wB, wNot, wAnd, wOr, wAndV, wOrV, wNotV, wIf, wChain, wNil, wCons, wCB, wTup, wLst, wNoPart, wPart, wSlT, wSlL, wSeq, wRng1, wRng2, wZip, wName, wNilT, wConsT, wTupT, wYes, wNeg, wVar, wC, wOp, wcNil, wcCons, wcOwn, wCall, wCallOwn, slots, cellsOf, OwnArgs, putBack, g2I, g2IC, gLen, gAbs, gGcd, gInt1, gTupleOf, gListOf, gIx, gCatT, gCat, gEq, gNe, gIsN, gNotN, scD, seqD_t, seqD_l, seqD_f, isNonD, List.nodup_cons, List.mem_cons, List.not_mem_nil, or_false, not_false_eq_true, Nat.reduceEqDiff, L3.Keeps, ends, wipeD, List.replicate, List.cons_append, List.nil_append, List.append_nil, List.getElem?_cons_zero, List.getElem?_cons_succ, List.set_cons_zero, List.set_cons_succ, List.getD_cons_zero, List.getD_cons_succ, List.length_cons, List.length_nil, List.nodup_nil, Option.some.injEq, Cell.dat.injEq, Cell.own.injEq, Cont.lst.injEq, D.bl.injEq, D.int.injEq, D.str.injEq, D.tup.injEq, D.lst.injEq, Arg.d.injEq, List.cons.injEq, exists_and_left, exists_and_right, exists_eq_left', exists_eq_left, exists_eq_right, exists_eq_right', exists_eq, exists_eq', and_true, true_and, and_assoc, and_self, exists_const, reduceCtorEq]
  refine ⟨_, rfl, _, rfl, _, rfl, by rw [List.length_map]; have := hb.l; omega, InvCa Z ss ks, ⟨rfl, rfl⟩, ?_, ?_⟩
  · rintro i d acc τ2 hd ⟨rfl, rfl⟩ -
    rw [List.getElem?_map] at hd
    obtain ⟨k, ek, rfl⟩ := Option.map_eq_some_iff.mp hd
    have tk : ks.take (i + 1) = ks.take i ++ [k] := by rw [List.take_add_one, ek]; rfl
    simp only [gIsB, gNotB, D.adr.injEq, Cont.pool.injEq, ixN31, ne_eq, List.map_cons, List.map_nil, wPoolOpen, wPoolClose, wPop0, wPopTo, wListOwn, wRemove, wRaise0, wRaise1, wAugOwn, wEnumL, wTru, wSlA, gCatA, gLtT, gLeT, wFrz, wChain3, wAttr, wMkF, wEnumT, wRevT, wDict0, wDict1, numD3, Nat.reduceAdd, atI0, atI1, atI2, atI3, atI4, ixN51, ixN52, ixN53, List.length_map, wNever, scal, V.int.injEq, V.str.injEq, V.bl.injEq, wSq, wNext, wBreak, wCont, wDrop, wRet, wRetN, wIfS, wAsg, wPar, wLstOwn, wAppend, wSetOwn, wIxOwn, wPeek, wRetOwn, wRetFr, wFor, wB, wNot, wAnd, wOr, wAndV, wOrV, wNotV, wIf, wChain, wNil, wCons, wCB, wTup, wLst, wNoPart, wPart, wSlT, wSlL, wSeq, wRng1, wRng2, wZip, wName, wNilT, wConsT, wTupT, wYes, wNeg, wVar, wC, wOp, wcNil, wcCons, wcOwn, wCall, wCallOwn, slots, cellsOf, OwnArgs, putBack, g2I, g2IC, gLen, gAbs, gGcd, gInt1, gTupleOf, gListOf, gIx, gCatT, gCat, gEq, gNe, gIsN, gNotN, scD, seqD_t, seqD_l, seqD_f, isNonD, List.nodup_cons, List.mem_cons, List.not_mem_nil, or_false, not_false_eq_true, Nat.reduceEqDiff, L3.Keeps, ends, wipeD, List.replicate, List.cons_append, List.nil_append, List.append_nil, List.getElem?_cons_zero, List.getElem?_cons_succ, List.set_cons_zero, List.set_cons_succ, List.getD_cons_zero, List.getD_cons_succ, List.length_cons, List.length_nil, List.nodup_nil, Option.some.injEq, Cell.dat.injEq, Cell.own.injEq, Cont.lst.injEq, D.bl.injEq, D.int.injEq, D.str.injEq, D.tup.injEq, D.lst.injEq, Arg.d.injEq, List.cons.injEq, exists_and_left, exists_and_right, exists_eq_left', exists_eq_left, exists_eq_right, exists_eq_right', exists_eq, exists_eq', and_true, true_and, and_assoc, and_self, exists_const, reduceCtorEq]
    refine ⟨fun _ => ⟨_, rfl, _, rfl, ss, rfl, k, rfl, hb.s, hb.k k (List.mem_of_getElem? ek), ?_, rfl⟩, fun z => z.elim⟩
    rw [tk, List.map_append, List.map_append]
    rfl
  · rintro acc τ2 ⟨rfl, e⟩ -
    rw [List.length_map, List.take_length, e]
    exact hq
theorem pure_calm {Z : CT} : PureD 1 1 (fs_calm K Z) (w_calm K Z) := by
  rintro cs q e - ⟨ss, ks, rfl, hb, hq⟩
  simp only [w_calm, gIsB, gNotB, D.adr.injEq, Cont.pool.injEq, ixN31, ne_eq, List.map_cons, List.map_nil, wPoolOpen, wPoolClose, wPop0, wPopTo, wListOwn, wRemove, wRaise0, wRaise1, wAugOwn, wEnumL, wTru, wSlA, gCatA, gLtT, gLeT, wFrz, wChain3, wAttr, wMkF, wEnumT, wRevT, wDict0, wDict1, numD3, Nat.reduceAdd, atI0, atI1, atI2, atI3, atI4, ixN51, ixN52, ixN53, List.length_map, wNever, scal, V.int.injEq, V.str.injEq, V.bl.injEq, wSq, wNext, wBreak, wCont, wDrop, wRet, wRetN, wIfS, wAsg, wPar, wLstOwn, wAppend, wSetOwn, wIxOwn, wPeek, wRetOwn, wRetFr, wFor, wB, wNot, wAnd, wOr, wAndV, wOrV, wNotV, wIf, wChain, wNil, wCons, wCB, wTup, wLst, wNoPart, wPart, wSlT, wSlL, wSeq, wRng1, wRng2, wZip, wName, wNilT, wConsT, wTupT, wYes, wNeg, wVar, wC, wOp, wcNil, wcCons, wcOwn, wCall, wCallOwn, slots, cellsOf, OwnArgs, putBack, g2I, g2IC, gLen, gAbs, gGcd, gInt1, gTupleOf, gListOf, gIx, gCatT, gCat, gEq, gNe, gIsN, gNotN, scD, seqD_t, seqD_l, seqD_f, isNonD, List.nodup_cons, List.mem_cons, List.not_mem_nil, or_false, not_false_eq_true, Nat.reduceEqDiff, L3.Keeps, ends, wipeD, List.replicate, List.cons_append, List.nil_append, List.append_nil, List.getElem?_cons_zero, List.getElem?_cons_succ, List.set_cons_zero, List.set_cons_succ, List.getD_cons_zero, List.getD_cons_succ, List.length_cons, List.length_nil, List.nodup_nil, Option.some.injEq, Cell.dat.injEq, Cell.own.injEq, Cont.lst.injEq, D.bl.injEq, D.int.injEq, D.str.injEq, D.tup.injEq, D.lst.injEq, Arg.d.injEq, List.cons.injEq, exists_and_left, exists_and_right, exists_eq_left', exists_eq_left, exists_eq_right, exists_eq_right', exists_eq, exists_eq', and_true, true_and, and_assoc, and_self, exists_const, reduceCtorEq]
  refine c1_calm_ok hb ?_
  simp only [gIsB, gNotB, D.adr.injEq, Cont.pool.injEq, ixN31, ne_eq, List.map_cons, List.map_nil, wPoolOpen, wPoolClose, wPop0, wPopTo, wListOwn, wRemove, wRaise0, wRaise1, wAugOwn, wEnumL, wTru, wSlA, gCatA, gLtT, gLeT, wFrz, wChain3, wAttr, wMkF, wEnumT, wRevT, wDict0, wDict1, numD3, Nat.reduceAdd, atI0, atI1, atI2, atI3, atI4, ixN51, ixN52, ixN53, List.length_map, wNever, scal, V.int.injEq, V.str.injEq, V.bl.injEq, wSq, wNext, wBreak, wCont, wDrop, wRet, wRetN, wIfS, wAsg, wPar, wLstOwn, wAppend, wSetOwn, wIxOwn, wPeek, wRetOwn, wRetFr, wFor, wB, wNot, wAnd, wOr, wAndV, wOrV, wNotV, wIf, wChain, wNil, wCons, wCB, wTup, wLst, wNoPart, wPart, wSlT, wSlL, wSeq, wRng1, wRng2, wZip, wName, wNilT, wConsT, wTupT, wYes, wNeg, wVar, wC, wOp, wcNil, wcCons, wcOwn, wCall, wCallOwn, slots, cellsOf, OwnArgs, putBack, g2I, g2IC, gLen, gAbs, gGcd, gInt1, gTupleOf, gListOf, gIx, gCatT, gCat, gEq, gNe, gIsN, gNotN, scD, seqD_t, seqD_l, seqD_f, isNonD, List.nodup_cons, List.mem_cons, List.not_mem_nil, or_false, not_false_eq_true, Nat.reduceEqDiff, L3.Keeps, ends, wipeD, List.replicate, List.cons_append, List.nil_append, List.append_nil, List.getElem?_cons_zero, List.getElem?_cons_succ, List.set_cons_zero, List.set_cons_succ, List.getD_cons_zero, List.getD_cons_succ, List.length_cons, List.length_nil, List.nodup_nil, Option.some.injEq, Cell.dat.injEq, Cell.own.injEq, Cont.lst.injEq, D.bl.injEq, D.int.injEq, D.str.injEq, D.tup.injEq, D.lst.injEq, Arg.d.injEq, List.cons.injEq, exists_and_left, exists_and_right, exists_eq_left', exists_eq_left, exists_eq_right, exists_eq_right', exists_eq, exists_eq', and_true, true_and, and_assoc, and_self, exists_const, reduceCtorEq]
  refine ⟨_, _, .inl rfl, rfl, ?_⟩
  have e1 : (ks.map (calmK ss)).all id = calmB ss ks := by unfold calmB; simp
  rw [e1]
  exact hq
theorem ok_calm (T : Txt K mg) : FnOk P w K mg base (L2.CX P w) 6 T.f_calm T.fd_calm ["book"] (spOf K 1 (fs_calm K T.Z)) := by
  refine def_ok T.F_calm sc_calm (wb := w_calm K T.Z) pure_calm ?_
  intro cdv A outer s H E hr tk
  exact ⟨_, (pss_one (ps_ret (pe_callB (cr_all (by rfl)) (by rfl) T.z_all (by decide +kernel) (pa_cons (pe_lc (own := [("kind", 1)]) (g := (gName 1)) (tt := tYes) (te := (tCallS (spOf K 2 (fs_calm_kind K)) (L2.WE W0) (tCons (tFld K (tVar 0) "sorts") (tCons (tVar 1) tNil)))) rfl sc_calm.nd (pi_seq (pe_fld (pv 0) rfl)) (blkOk_by (N := ["book", "kind"]) (sc := defScope s_calm) (by decide +kernel)) (fun _ _ _ _ _ => (pg_name (i := 1) sc_calm.nd rfl (by first | exact Or.inl rfl | exact Or.inr rfl))) (fun _ _ _ _ _ => pts_nil) (fun _ _ _ _ _ => (pe_callS (ok_calm_kind T) (hr.mono (by decide)) rfl T.g_calm_kind T.k_calm_kind T.b_calm_kind (fun σ => passAt L2.takes0 σ) (pa_cons (pe_fld (pv 0) rfl) (pa_cons (pv 1) pa_nil))))) pa_nil)))),
    (ds_ret (de_cb o_all (da_cons (de_lc (vs := [1]) (wI := (wSeq (wAttr T.Z.C_Book "kinds" (wVar 0)))) (wg := (wName 1)) (wt := wYes) (we := (wCall 2 (fs_calm_kind K) (wcCons (wAttr T.Z.C_Book "sorts" (wVar 0)) (wcCons (wVar 1) wcNil)))) (di_seq (de_fld T.it_Book.cl T.na_Book_kinds (de_var 0))) (dg_name 1) dt_yes (de_call (n := 2) (fs := fs_calm_kind K) (dac_cons (de_fld T.it_Book.cl T.na_Book_sorts (de_var 0)) (dac_cons (de_var 1) dac_nil))) (by decide)) da_nil)))⟩
abbrev s_calm_singly : Stmt := topS 51
theorem sc_calm_singly : FnScope ["book", "sorts", "width", "_", "kind"] ["book"] (defScope s_calm_singly) := ⟨rfl, rfl, rfl, by decide +kernel, rfl, by decide +kernel, by decide +kernel⟩
def c1_calm_singly (K : PySem.W.Frag) (Z : CT) : EW := wLc (wSeq (wAttr Z.C_Book "sorts" (wVar 0))) (wTupT 2 (wConsT (wName 2) (wConsT (wName 3) wNilT))) wYes (wTup (wCons (wVar 2) (wCons (wC (.int 1)) wNil))) [2, 3]
def c2_calm_singly (K : PySem.W.Frag) (Z : CT) : EW := wLc (wSeq (wAttr Z.C_Book "kinds" (wVar 0))) (wName 4) wYes (wCall 2 (fs_calm_kind K) (wcCons (wVar 1) (wcCons (wVar 4) wcNil))) [4]
def w_calm_singly (K : PySem.W.Frag) (Z : CT) : SW := (wSq (wAsg (wCB gTupleOf (wCons (c1_calm_singly K Z) wNil)) (wName 1))
  (wRet (wCB gAll (wCons (c2_calm_singly K Z) wNil))))
/-- the sorts, each with the cap 1 -/
def singS (ss : List So) : List So := ss.map fun s => (s.1, 1)
theorem singS_b {ss : List So} (h : SoB ss) : SoB (singS ss) := fun s hs => by
  obtain ⟨t, ht, rfl⟩ := List.mem_map.mp hs
  have := h t ht
  exact ⟨this.1, this.2.1, Int.le_refl _, (by decide : (1 : Int) ≤ 6)⟩
theorem singS_jo {ss : List So} {jo : Jo} (h : JoV ss jo) : JoV (singS ss) jo := by
  obtain ⟨s, t, e1, e2, hn⟩ := h
  refine ⟨(s.1, 1), (t.1, 1), ?_, ?_, hn⟩
  · unfold singS; rw [List.getElem?_map, e1]; rfl
  · unfold singS; rw [List.getElem?_map, e2]; rfl
theorem singS_v {ss : List So} {ks : List Ki} (h : BkV ss ks) : BkV (singS ss) ks := ⟨singS_b h.s, h.l, fun k mk => ⟨(h.k k mk).1, (h.k k mk).2.1, fun jo mj => singS_jo ((h.k k mk).2.2 jo mj)⟩⟩
def fs_calm_singly (K : PySem.W.Frag) (Z : CT) : FS := fun cs q _ => ∃ (ss : List So) (ks : List Ki), cs = [.dat (bookI Z (sosD ss) (kisD ks))] ∧ BkV ss ks ∧ ss.length ≤ 900 ∧ q (.bl (calmB (singS ss) ks)) cs
def InvC1s (c0 c1 c4 : Cell) (ss : List So) (i : Nat) (acc : List D) (τ : List Cell) : Prop := acc = (singS (ss.take i)).map soD ∧ τ = [c0, c1, .any, .any, c4]
theorem c1_calm_singly_ok {Z : CT} {ss : List So} {ks : D} {c1 c2 c3 c4 : Cell} {q : D → List Cell → Prop} {e : Xn → List Cell → Prop} (hl : ss.length ≤ 900)
    (hq : q (.lst ((singS ss).map soD)) [.dat (bookI Z (sosD ss) ks), c1, .any, .any, c4]) : c1_calm_singly K Z [.dat (bookI Z (sosD ss) ks), c1, c2, c3, c4] q e := by
  unfold c1_calm_singly wLc
  simp only [gIsB, gNotB, D.adr.injEq, Cont.pool.injEq, ixN31, ne_eq, List.map_cons, List.map_nil, wPoolOpen, wPoolClose, wPop0, wPopTo, wListOwn, wRemove, wRaise0, wRaise1, wAugOwn, wEnumL, wTru, wSlA, gCatA, gLtT, gLeT, wFrz, wChain3, wAttr, wMkF, wEnumT, wRevT, wDict0, wDict1, numD3, Nat.reduceAdd, atI0, atI1, atI2, atI3, atI4, ixN51, ixN52, ixN53, List.length_map, wNever, scal, V.int.injEq, V.str.injEq, V.bl.injEq, wSq, wNext, wBreak, wCont, wDrop, wRet, wRetN, wIfS, wAsg, wPar, wLstOwn, wAppend, wSetOwn, wIxOwn, wPeek, wRetOwn, wRetFr, wFor, wB, wNot, wAnd, wOr, wAndV, wOrV, wNotV, wIf, wChain, wNil, wCons, wCB, wTup, wLst, wNoPart, wPart, wSlT, wSlL, wSeq, wRng1, wRng2, wZip, wName, wNilT, wConsT, wTupT, wYes, wNeg, wVar, wC, wOp, wcNil, wcCons, wcOwn, wCall, wCallOwn, slots, cellsOf, OwnArgs, putBack, g2I, g2IC, gLen, gAbs, gGcd, gInt1, gTupleOf, gListOf, gIx, gCatT, gCat, gEq, gNe, gIsN, gNotN, scD, seqD_t, seqD_l, seqD_f, isNonD, List.nodup_cons, List.mem_cons, List.not_mem_nil, or_false, not_false_eq_true, Nat.reduceEqDiff, L3.Keeps, ends, wipeD, List.replicate, List.cons_append, List.nil_append, List.append_nil, List.getElem?_cons_zero, List.getElem?_cons_succ, List.set_cons_zero, List.set_cons_succ, List.getD_cons_zero, List.getD_cons_succ, List.length_cons, List.length_nil, List.nodup_nil, Option.some.injEq, Cell.dat.injEq, Cell.own.injEq, Cont.lst.injEq, D.bl.injEq, D.int.injEq, D.str.injEq, D.tup.injEq, D.lst.injEq, Arg.d.injEq, List.cons.injEq, exists_and_left, exists_and_right, exists_eq_left', exists_eq_left, exists_eq_right, exists_eq_right', exists_eq, exists_eq', and_true, true_and, and_assoc, and_self, exists_const, reduceCtorEq]
  refine ⟨_, rfl, _, rfl, _, rfl, by rw [List.length_map]; omega, InvC1s (.dat (bookI Z (sosD ss) ks)) c1 c4 ss, ⟨rfl, rfl⟩, ?_, ?_⟩
  · rintro i d acc τ2 hd ⟨rfl, rfl⟩ -
    rw [List.getElem?_map] at hd
    obtain ⟨s, es, rfl⟩ := Option.map_eq_some_iff.mp hd
    have tk : ss.take (i + 1) = ss.take i ++ [s] := by rw [List.take_add_one, es]; rfl
    simp only [soD, wTupT, wConsT, gIsB, gNotB, D.adr.injEq, Cont.pool.injEq, ixN31, ne_eq, List.map_cons, List.map_nil, wPoolOpen, wPoolClose, wPop0, wPopTo, wListOwn, wRemove, wRaise0, wRaise1, wAugOwn, wEnumL, wTru, wSlA, gCatA, gLtT, gLeT, wFrz, wChain3, wAttr, wMkF, wEnumT, wRevT, wDict0, wDict1, numD3, Nat.reduceAdd, atI0, atI1, atI2, atI3, atI4, ixN51, ixN52, ixN53, List.length_map, wNever, scal, V.int.injEq, V.str.injEq, V.bl.injEq, wSq, wNext, wBreak, wCont, wDrop, wRet, wRetN, wIfS, wAsg, wPar, wLstOwn, wAppend, wSetOwn, wIxOwn, wPeek, wRetOwn, wRetFr, wFor, wB, wNot, wAnd, wOr, wAndV, wOrV, wNotV, wIf, wChain, wNil, wCons, wCB, wTup, wLst, wNoPart, wPart, wSlT, wSlL, wSeq, wRng1, wRng2, wZip, wName, wNilT, wConsT, wTupT, wYes, wNeg, wVar, wC, wOp, wcNil, wcCons, wcOwn, wCall, wCallOwn, slots, cellsOf, OwnArgs, putBack, g2I, g2IC, gLen, gAbs, gGcd, gInt1, gTupleOf, gListOf, gIx, gCatT, gCat, gEq, gNe, gIsN, gNotN, scD, seqD_t, seqD_l, seqD_f, isNonD, List.nodup_cons, List.mem_cons, List.not_mem_nil, or_false, not_false_eq_true, Nat.reduceEqDiff, L3.Keeps, ends, wipeD, List.replicate, List.cons_append, List.nil_append, List.append_nil, List.getElem?_cons_zero, List.getElem?_cons_succ, List.set_cons_zero, List.set_cons_succ, List.getD_cons_zero, List.getD_cons_succ, List.length_cons, List.length_nil, List.nodup_nil, Option.some.injEq, Cell.dat.injEq, Cell.own.injEq, Cont.lst.injEq, D.bl.injEq, D.int.injEq, D.str.injEq, D.tup.injEq, D.lst.injEq, Arg.d.injEq, List.cons.injEq, exists_and_left, exists_and_right, exists_eq_left', exists_eq_left, exists_eq_right, exists_eq_right', exists_eq, exists_eq', and_true, true_and, and_assoc, and_self, exists_const, reduceCtorEq]
    refine ⟨fun _ => ⟨by decide, ?_, rfl⟩, fun z => z.elim⟩
    rw [tk]
    unfold singS
    rw [List.map_append, List.map_append]
    rfl
  · rintro acc τ2 ⟨rfl, e⟩ -
    rw [List.length_map, List.take_length] at *
    rw [e]
    exact hq
def InvCs (Z : CT) (ss us : List So) (ks : List Ki) (c2 c3 : Cell) (i : Nat) (acc : List D) (τ : List Cell) : Prop := acc = ((ks.take i).map (calmK us)).map D.bl ∧ τ = [.dat (bookI Z (sosD ss) (kisD ks)), .dat (sosD us), c2, c3, .any]
theorem c2_calm_singly_ok {Z : CT} {ss us : List So} {ks : List Ki} {c2 c3 c4 : Cell} {q : D → List Cell → Prop} {e : Xn → List Cell → Prop} (hb : BkV us ks)
    (hq : q (.lst ((ks.map (calmK us)).map D.bl)) [.dat (bookI Z (sosD ss) (kisD ks)), .dat (sosD us), c2, c3, .any]) : c2_calm_singly K Z [.dat (bookI Z (sosD ss) (kisD ks)), .dat (sosD us), c2, c3, c4] q e := by
  unfold c2_calm_singly wLc
  simp only [fs_calm_kind, gIsB, gNotB, D.adr.injEq, Cont.pool.injEq, ixN31, ne_eq, List.map_cons, List.map_nil, wPoolOpen, wPoolClose, wPop0, wPopTo, wListOwn, wRemove, wRaise0, wRaise1, wAugOwn, wEnumL, wTru, wSlA, gCatA, gLtT, gLeT, wFrz, wChain3, wAttr, wMkF, wEnumT, wRevT, wDict0, wDict1, numD3, Nat.reduceAdd, atI0, atI1, atI2, atI3, atI4, ixN51, ixN52, ixN53, List.length_map, wNever, scal, V.int.injEq, V.str.injEq, V.bl.injEq, wSq, wNext, wBreak, wCont, wDrop, wRet, wRetN, wIfS, wAsg, wPar, wLstOwn, wAppend, wSetOwn, wIxOwn, wPeek, wRetOwn, wRetFr, wFor, wB, wNot, wAnd, wOr, wAndV, wOrV, wNotV, wIf, wChain, wNil, wCons, wCB, wTup, wLst, wNoPart, wPart, wSlT, wSlL, wSeq, wRng1, wRng2, wZip, wName, wNilT, wConsT, wTupT, wYes, wNeg, wVar, wC, wOp, wcNil, wcCons, wcOwn, wCall, wCallOwn, slots, cellsOf, OwnArgs, putBack, g2I, g2IC, gLen, gAbs, gGcd, gInt1, gTupleOf, gListOf, gIx, gCatT, gCat, gEq, gNe, gIsN, gNotN, scD, seqD_t, seqD_l, seqD_f, isNonD, List.nodup_cons, List.mem_cons, List.not_mem_nil, or_false, not_false_eq_true, Nat.reduceEqDiff, L3.Keeps, ends, wipeD, List.replicate, List.cons_append, List.nil_append, List.append_nil, List.getElem?_cons_zero, List.getElem?_cons_succ, List.set_cons_zero, List.set_cons_succ, List.getD_cons_zero, List.getD_cons_succ, List.length_cons, List.length_nil, List.nodup_nil, Option.some.injEq, Cell.dat.injEq, Cell.own.injEq, Cont.lst.injEq, D.bl.injEq, D.int.injEq, D.str.injEq, D.tup.injEq, D.lst.injEq, Arg.d.injEq, List.cons.injEq, exists_and_left, exists_and_right, exists_eq_left', exists_eq_left, exists_eq_right, exists_eq_right', exists_eq, exists_eq', and_true, true_and, and_assoc, and_self, exists_const, reduceCtorEq]
  refine ⟨_, rfl, _, rfl, _, rfl, by rw [List.length_map]; have := hb.l; omega, InvCs Z ss us ks c2 c3, ⟨rfl, rfl⟩, ?_, ?_⟩
  · rintro i d acc τ2 hd ⟨rfl, rfl⟩ -
    rw [List.getElem?_map] at hd
    obtain ⟨k, ek, rfl⟩ := Option.map_eq_some_iff.mp hd
    have tk : ks.take (i + 1) = ks.take i ++ [k] := by rw [List.take_add_one, ek]; rfl
    simp only [gIsB, gNotB, D.adr.injEq, Cont.pool.injEq, ixN31, ne_eq, List.map_cons, List.map_nil, wPoolOpen, wPoolClose, wPop0, wPopTo, wListOwn, wRemove, wRaise0, wRaise1, wAugOwn, wEnumL, wTru, wSlA, gCatA, gLtT, gLeT, wFrz, wChain3, wAttr, wMkF, wEnumT, wRevT, wDict0, wDict1, numD3, Nat.reduceAdd, atI0, atI1, atI2, atI3, atI4, ixN51, ixN52, ixN53, List.length_map, wNever, scal, V.int.injEq, V.str.injEq, V.bl.injEq, wSq, wNext, wBreak, wCont, wDrop, wRet, wRetN, wIfS, wAsg, wPar, wLstOwn, wAppend, wSetOwn, wIxOwn, wPeek, wRetOwn, wRetFr, wFor, wB, wNot, wAnd, wOr, wAndV, wOrV, wNotV, wIf, wChain, wNil, wCons, wCB, wTup, wLst, wNoPart, wPart, wSlT, wSlL, wSeq, wRng1, wRng2, wZip, wName, wNilT, wConsT, wTupT, wYes, wNeg, wVar, wC, wOp, wcNil, wcCons, wcOwn, wCall, wCallOwn, slots, cellsOf, OwnArgs, putBack, g2I, g2IC, gLen, gAbs, gGcd, gInt1, gTupleOf, gListOf, gIx, gCatT, gCat, gEq, gNe, gIsN, gNotN, scD, seqD_t, seqD_l, seqD_f, isNonD, List.nodup_cons, List.mem_cons, List.not_mem_nil, or_false, not_false_eq_true, Nat.reduceEqDiff, L3.Keeps, ends, wipeD, List.replicate, List.cons_append, List.nil_append, List.append_nil, List.getElem?_cons_zero, List.getElem?_cons_succ, List.set_cons_zero, List.set_cons_succ, List.getD_cons_zero, List.getD_cons_succ, List.length_cons, List.length_nil, List.nodup_nil, Option.some.injEq, Cell.dat.injEq, Cell.own.injEq, Cont.lst.injEq, D.bl.injEq, D.int.injEq, D.str.injEq, D.tup.injEq, D.lst.injEq, Arg.d.injEq, List.cons.injEq, exists_and_left, exists_and_right, exists_eq_left', exists_eq_left, exists_eq_right, exists_eq_right', exists_eq, exists_eq', and_true, true_and, and_assoc, and_self, exists_const, reduceCtorEq]
    refine ⟨fun _ => ⟨us, rfl, k, rfl, hb.s, hb.k k (List.mem_of_getElem? ek), ?_, rfl⟩, fun z => z.elim⟩
    rw [tk, List.map_append, List.map_append]
    rfl
  · rintro acc τ2 ⟨rfl, e⟩ -
    rw [List.length_map, List.take_length, e]
    exact hq
theorem pure_calm_singly {Z : CT} : PureD 1 4 (fs_calm_singly K Z) (w_calm_singly K Z) := by
  rintro cs q e - ⟨ss, ks, rfl, hb, hl, hq⟩
  simp only [w_calm_singly, gIsB, gNotB, D.adr.injEq, Cont.pool.injEq, ixN31, ne_eq, List.map_cons, List.map_nil, wPoolOpen, wPoolClose, wPop0, wPopTo, wListOwn, wRemove, wRaise0, wRaise1, wAugOwn, wEnumL, wTru, wSlA, gCatA, gLtT, gLeT, wFrz, wChain3, wAttr, wMkF, wEnumT, wRevT, wDict0, wDict1, numD3, Nat.reduceAdd, atI0, atI1, atI2, atI3, atI4, ixN51, ixN52, ixN53, List.length_map, wNever, scal, V.int.injEq, V.str.injEq, V.bl.injEq, wSq, wNext, wBreak, wCont, wDrop, wRet, wRetN, wIfS, wAsg, wPar, wLstOwn, wAppend, wSetOwn, wIxOwn, wPeek, wRetOwn, wRetFr, wFor, wB, wNot, wAnd, wOr, wAndV, wOrV, wNotV, wIf, wChain, wNil, wCons, wCB, wTup, wLst, wNoPart, wPart, wSlT, wSlL, wSeq, wRng1, wRng2, wZip, wName, wNilT, wConsT, wTupT, wYes, wNeg, wVar, wC, wOp, wcNil, wcCons, wcOwn, wCall, wCallOwn, slots, cellsOf, OwnArgs, putBack, g2I, g2IC, gLen, gAbs, gGcd, gInt1, gTupleOf, gListOf, gIx, gCatT, gCat, gEq, gNe, gIsN, gNotN, scD, seqD_t, seqD_l, seqD_f, isNonD, List.nodup_cons, List.mem_cons, List.not_mem_nil, or_false, not_false_eq_true, Nat.reduceEqDiff, L3.Keeps, ends, wipeD, List.replicate, List.cons_append, List.nil_append, List.append_nil, List.getElem?_cons_zero, List.getElem?_cons_succ, List.set_cons_zero, List.set_cons_succ, List.getD_cons_zero, List.getD_cons_succ, List.length_cons, List.length_nil, List.nodup_nil, Option.some.injEq, Cell.dat.injEq, Cell.own.injEq, Cont.lst.injEq, D.bl.injEq, D.int.injEq, D.str.injEq, D.tup.injEq, D.lst.injEq, Arg.d.injEq, List.cons.injEq, exists_and_left, exists_and_right, exists_eq_left', exists_eq_left, exists_eq_right, exists_eq_right', exists_eq, exists_eq', and_true, true_and, and_assoc, and_self, exists_const, reduceCtorEq]
  refine c1_calm_singly_ok hl ?_
  simp only [gIsB, gNotB, D.adr.injEq, Cont.pool.injEq, ixN31, ne_eq, List.map_cons, List.map_nil, wPoolOpen, wPoolClose, wPop0, wPopTo, wListOwn, wRemove, wRaise0, wRaise1, wAugOwn, wEnumL, wTru, wSlA, gCatA, gLtT, gLeT, wFrz, wChain3, wAttr, wMkF, wEnumT, wRevT, wDict0, wDict1, numD3, Nat.reduceAdd, atI0, atI1, atI2, atI3, atI4, ixN51, ixN52, ixN53, List.length_map, wNever, scal, V.int.injEq, V.str.injEq, V.bl.injEq, wSq, wNext, wBreak, wCont, wDrop, wRet, wRetN, wIfS, wAsg, wPar, wLstOwn, wAppend, wSetOwn, wIxOwn, wPeek, wRetOwn, wRetFr, wFor, wB, wNot, wAnd, wOr, wAndV, wOrV, wNotV, wIf, wChain, wNil, wCons, wCB, wTup, wLst, wNoPart, wPart, wSlT, wSlL, wSeq, wRng1, wRng2, wZip, wName, wNilT, wConsT, wTupT, wYes, wNeg, wVar, wC, wOp, wcNil, wcCons, wcOwn, wCall, wCallOwn, slots, cellsOf, OwnArgs, putBack, g2I, g2IC, gLen, gAbs, gGcd, gInt1, gTupleOf, gListOf, gIx, gCatT, gCat, gEq, gNe, gIsN, gNotN, scD, seqD_t, seqD_l, seqD_f, isNonD, List.nodup_cons, List.mem_cons, List.not_mem_nil, or_false, not_false_eq_true, Nat.reduceEqDiff, L3.Keeps, ends, wipeD, List.replicate, List.cons_append, List.nil_append, List.append_nil, List.getElem?_cons_zero, List.getElem?_cons_succ, List.set_cons_zero, List.set_cons_succ, List.getD_cons_zero, List.getD_cons_succ, List.length_cons, List.length_nil, List.nodup_nil, Option.some.injEq, Cell.dat.injEq, Cell.own.injEq, Cont.lst.injEq, D.bl.injEq, D.int.injEq, D.str.injEq, D.tup.injEq, D.lst.injEq, Arg.d.injEq, List.cons.injEq, exists_and_left, exists_and_right, exists_eq_left', exists_eq_left, exists_eq_right, exists_eq_right', exists_eq, exists_eq', and_true, true_and, and_assoc, and_self, exists_const, reduceCtorEq]
  refine c2_calm_singly_ok (us := singS ss) (singS_v hb) ?_
  simp only [gIsB, gNotB, D.adr.injEq, Cont.pool.injEq, ixN31, ne_eq, List.map_cons, List.map_nil, wPoolOpen, wPoolClose, wPop0, wPopTo, wListOwn, wRemove, wRaise0, wRaise1, wAugOwn, wEnumL, wTru, wSlA, gCatA, gLtT, gLeT, wFrz, wChain3, wAttr, wMkF, wEnumT, wRevT, wDict0, wDict1, numD3, Nat.reduceAdd, atI0, atI1, atI2, atI3, atI4, ixN51, ixN52, ixN53, List.length_map, wNever, scal, V.int.injEq, V.str.injEq, V.bl.injEq, wSq, wNext, wBreak, wCont, wDrop, wRet, wRetN, wIfS, wAsg, wPar, wLstOwn, wAppend, wSetOwn, wIxOwn, wPeek, wRetOwn, wRetFr, wFor, wB, wNot, wAnd, wOr, wAndV, wOrV, wNotV, wIf, wChain, wNil, wCons, wCB, wTup, wLst, wNoPart, wPart, wSlT, wSlL, wSeq, wRng1, wRng2, wZip, wName, wNilT, wConsT, wTupT, wYes, wNeg, wVar, wC, wOp, wcNil, wcCons, wcOwn, wCall, wCallOwn, slots, cellsOf, OwnArgs, putBack, g2I, g2IC, gLen, gAbs, gGcd, gInt1, gTupleOf, gListOf, gIx, gCatT, gCat, gEq, gNe, gIsN, gNotN, scD, seqD_t, seqD_l, seqD_f, isNonD, List.nodup_cons, List.mem_cons, List.not_mem_nil, or_false, not_false_eq_true, Nat.reduceEqDiff, L3.Keeps, ends, wipeD, List.replicate, List.cons_append, List.nil_append, List.append_nil, List.getElem?_cons_zero, List.getElem?_cons_succ, List.set_cons_zero, List.set_cons_succ, List.getD_cons_zero, List.getD_cons_succ, List.length_cons, List.length_nil, List.nodup_nil, Option.some.injEq, Cell.dat.injEq, Cell.own.injEq, Cont.lst.injEq, D.bl.injEq, D.int.injEq, D.str.injEq, D.tup.injEq, D.lst.injEq, Arg.d.injEq, List.cons.injEq, exists_and_left, exists_and_right, exists_eq_left', exists_eq_left, exists_eq_right, exists_eq_right', exists_eq, exists_eq', and_true, true_and, and_assoc, and_self, exists_const, reduceCtorEq]
  refine ⟨_, _, .inl rfl, rfl, ?_⟩
  have e1 : (ks.map (calmK (singS ss))).all id = calmB (singS ss) ks := by unfold calmB; simp
  rw [e1]
  exact hq
theorem ok_calm_singly (T : Txt K mg) : FnOk P w K mg base (L2.CX P w) 6 T.f_calm_singly T.fd_calm_singly ["book"] (spOf K 1 (fs_calm_singly K T.Z)) := by
  refine def_ok T.F_calm_singly sc_calm_singly (wb := w_calm_singly K T.Z) pure_calm_singly ?_
  intro cdv A outer s H E hr tk
  exact ⟨_, (pss_cons (ps_set (i := 1) sc_calm_singly.nd rfl (by first | exact Or.inl rfl | exact Or.inr rfl) (pe_callTy call_tuple_of (by rfl) T.z_tuple (by decide +kernel) (pa_cons (pe_lc (own := [("width", 2), ("_", 3)]) (g := (gTup K 2 (gCons (gName 2) (gCons (gName 3) gNil)))) (tt := tYes) (te := (tTup (tCons (tVar 2) (tCons (tC (.int 1)) tNil)))) rfl sc_calm_singly.nd (pi_seq (pe_fld (pv 0) rfl)) (blkOk_by (N := ["book", "sorts", "width", "_", "kind"]) (sc := defScope s_calm_singly) (by decide +kernel)) (fun _ _ _ _ _ => (pg_tup (by rfl) (pgs_cons (pg_name (i := 2) sc_calm_singly.nd rfl (by first | exact Or.inl rfl | exact Or.inr rfl)) (pgs_cons (pg_name (i := 3) sc_calm_singly.nd rfl (by first | exact Or.inl rfl | exact Or.inr rfl)) pgs_nil)))) (fun _ _ _ _ _ => pts_nil) (fun _ _ _ _ _ => (pe_tup (pa_cons (pv 2) (pa_cons pe_int pa_nil))))) pa_nil)))
      (pss_one (ps_ret (pe_callB (cr_all (by rfl)) (by rfl) T.z_all (by decide +kernel) (pa_cons (pe_lc (own := [("kind", 4)]) (g := (gName 4)) (tt := tYes) (te := (tCallS (spOf K 2 (fs_calm_kind K)) (L2.WE W0) (tCons (tVar 1) (tCons (tVar 4) tNil)))) rfl sc_calm_singly.nd (pi_seq (pe_fld (pv 0) rfl)) (blkOk_by (N := ["book", "sorts", "width", "_", "kind"]) (sc := defScope s_calm_singly) (by decide +kernel)) (fun _ _ _ _ _ => (pg_name (i := 4) sc_calm_singly.nd rfl (by first | exact Or.inl rfl | exact Or.inr rfl))) (fun _ _ _ _ _ => pts_nil) (fun _ _ _ _ _ => (pe_callS (ok_calm_kind T) (hr.mono (by decide)) rfl T.g_calm_kind T.k_calm_kind T.b_calm_kind (fun σ => passAt L2.takes0 σ) (pa_cons (pv 1) (pa_cons (pv 4) pa_nil))))) pa_nil))))),
    (ds_seq (ds_asg (de_cb o_tupleOf (da_cons (de_lc (vs := [2, 3]) (wI := (wSeq (wAttr T.Z.C_Book "sorts" (wVar 0)))) (wg := (wTupT 2 (wConsT (wName 2) (wConsT (wName 3) wNilT)))) (wt := wYes) (we := (wTup (wCons (wVar 2) (wCons (wC (.int 1)) wNil)))) (di_seq (de_fld T.it_Book.cl T.na_Book_sorts (de_var 0))) (dg_tup (n := 2) (dgs_cons (dg_name 2) (dgs_cons (dg_name 3) dgs_nil))) dt_yes (de_tup (da_cons (de_var 2) (da_cons de_int da_nil))) (by decide)) da_nil)) (dg_name 1))
      (ds_ret (de_cb o_all (da_cons (de_lc (vs := [4]) (wI := (wSeq (wAttr T.Z.C_Book "kinds" (wVar 0)))) (wg := (wName 4)) (wt := wYes) (we := (wCall 2 (fs_calm_kind K) (wcCons (wVar 1) (wcCons (wVar 4) wcNil)))) (di_seq (de_fld T.it_Book.cl T.na_Book_kinds (de_var 0))) (dg_name 4) dt_yes (de_call (n := 2) (fs := fs_calm_kind K) (dac_cons (de_var 1) (dac_cons (de_var 4) dac_nil))) (by decide)) da_nil))))⟩
abbrev s_breach : Stmt := topS 49
theorem sc_breach : FnScope ["book", "number", "thresholds", "joins", "join", "drop"] ["book"] (defScope s_breach) := ⟨rfl, rfl, rfl, by decide +kernel, rfl, by decide +kernel, by decide +kernel⟩
def b1_breach (K : PySem.W.Frag) (Z : CT) : SW := (wSq (wAsg (wCall 3 (fs_least_breach K) (wcCons (wAttr Z.C_Book "sorts" (wVar 0)) (wcCons (wVar 2) (wcCons (wVar 4) wcNil)))) (wName 5))
  (wIfS (wB (wOp gNotN (wVar 5) (wC .non))) (wRet (wTup (wCons (wVar 1) (wCons (wVar 4) (wCons (wVar 5) wNil))))) wNext))
def l1_breach (K : PySem.W.Frag) (Z : CT) : SW := wFor (wSeq (wVar 3)) (wName 4) (b1_breach K Z)
def b3_breach (K : PySem.W.Frag) (Z : CT) : SW := (l1_breach K Z)
def l3_breach (K : PySem.W.Frag) (Z : CT) : SW := wFor (wEnumT (wCons (wAttr Z.C_Book "kinds" (wVar 0)) wNil)) (wTupT 2 (wConsT (wName 1) (wConsT (wTupT 2 (wConsT (wName 2) (wConsT (wName 3) wNilT))) wNilT))) (b3_breach K Z)
def w_breach (K : PySem.W.Frag) (Z : CT) : SW := (wSq (l3_breach K Z)
  (wRet (wC .non)))
def firstJ (ss : List So) (ts : List Th) : List Jo → Option (Jo × Int)
  | [] => none
  | jo :: r => match leastJ ss ts jo with | some n => some (jo, n) | none => firstJ ss ts r
def firstK (ss : List So) : Nat → List Ki → Option (Nat × Jo × Int)
  | _, [] => none
  | i, k :: r => match firstJ ss k.1 k.2 with | some (jo, n) => some (i, jo, n) | none => firstK ss (i + 1) r
def brD (ss : List So) : Option (Nat × Jo × Int) → D
  | none => .non
  | some (i, jo, n) => .tup [.int i, joD jo, nf n (grJ ss jo)]
def fs_breach (K : PySem.W.Frag) (Z : CT) : FS := fun cs q _ => ∃ (ss : List So) (ks : List Ki), cs = [.dat (bookI Z (sosD ss) (kisD ks))] ∧ BkV ss ks ∧ q (brD ss (firstK ss 0 ks)) cs
def InvB1 (c0 c1 c2 : Cell) (ss : List So) (ts : List Th) (js : List Jo) (i : Nat) (τ : List Cell) : Prop := ∃ c4 c5 : Cell, τ = [c0, c1, c2, .dat (.tup (js.map joD)), c4, c5] ∧ firstJ ss ts (js.drop i) = firstJ ss ts js
theorem l1_breach_ok {Z : CT} {c4 c5 : Cell} {ss : List So} {ks : D} {i : Nat} {k : Ki} {E : EndsD} (hs : SoB ss) (hk : KiV ss k)
    (hn : firstJ ss k.1 k.2 = none → ∀ c4 c5, E.nx [.dat (bookI Z (sosD ss) ks), .dat (.int i), .dat (stD k.1), .dat (.tup (k.2.map joD)), c4, c5])
    (hr : ∀ jo n c4 c5, firstJ ss k.1 k.2 = some (jo, n) → E.rt (.tup [.int i, joD jo, nf n (grJ ss jo)]) [.dat (bookI Z (sosD ss) ks), .dat (.int i), .dat (stD k.1), .dat (.tup (k.2.map joD)), c4, c5]) :
    l1_breach K Z E [.dat (bookI Z (sosD ss) ks), .dat (.int i), .dat (stD k.1), .dat (.tup (k.2.map joD)), c4, c5] := by
  unfold l1_breach wFor
  simp only [gIsB, gNotB, D.adr.injEq, Cont.pool.injEq, ixN31, ne_eq, List.map_cons, List.map_nil, wPoolOpen, wPoolClose, wPop0, wPopTo, wListOwn, wRemove, wRaise0, wRaise1, wAugOwn, wEnumL, wTru, wSlA, gCatA, gLtT, gLeT, wFrz, wChain3, wAttr, wMkF, wEnumT, wRevT, wDict0, wDict1, numD3, Nat.reduceAdd, atI0, atI1, atI2, atI3, atI4, ixN51, ixN52, ixN53, List.length_map, wNever, scal, V.int.injEq, V.str.injEq, V.bl.injEq, wSq, wNext, wBreak, wCont, wDrop, wRet, wRetN, wIfS, wAsg, wPar, wLstOwn, wAppend, wSetOwn, wIxOwn, wPeek, wRetOwn, wRetFr, wFor, wB, wNot, wAnd, wOr, wAndV, wOrV, wNotV, wIf, wChain, wNil, wCons, wCB, wTup, wLst, wNoPart, wPart, wSlT, wSlL, wSeq, wRng1, wRng2, wZip, wName, wNilT, wConsT, wTupT, wYes, wNeg, wVar, wC, wOp, wcNil, wcCons, wcOwn, wCall, wCallOwn, slots, cellsOf, OwnArgs, putBack, g2I, g2IC, gLen, gAbs, gGcd, gInt1, gTupleOf, gListOf, gIx, gCatT, gCat, gEq, gNe, gIsN, gNotN, scD, seqD_t, seqD_l, seqD_f, isNonD, List.nodup_cons, List.mem_cons, List.not_mem_nil, or_false, not_false_eq_true, Nat.reduceEqDiff, L3.Keeps, ends, wipeD, List.replicate, List.cons_append, List.nil_append, List.append_nil, List.getElem?_cons_zero, List.getElem?_cons_succ, List.set_cons_zero, List.set_cons_succ, List.getD_cons_zero, List.getD_cons_succ, List.length_cons, List.length_nil, List.nodup_nil, Option.some.injEq, Cell.dat.injEq, Cell.own.injEq, Cont.lst.injEq, D.bl.injEq, D.int.injEq, D.str.injEq, D.tup.injEq, D.lst.injEq, Arg.d.injEq, List.cons.injEq, exists_and_left, exists_and_right, exists_eq_left', exists_eq_left, exists_eq_right, exists_eq_right', exists_eq, exists_eq', and_true, true_and, and_assoc, and_self, exists_const, reduceCtorEq]
  refine ⟨InvB1 (.dat (bookI Z (sosD ss) ks)) (.dat (.int i)) (.dat (stD k.1)) ss k.1 k.2, ⟨_, _, rfl, rfl⟩, ?_, ?_⟩
  · rintro j d τ2 hd ⟨c4, c5, rfl, hf⟩
    rw [List.getElem?_map] at hd
    obtain ⟨jo, ej, rfl⟩ := Option.map_eq_some_iff.mp hd
    have hi := (List.getElem?_eq_some_iff.mp ej).1
    have pe : k.2[j] = jo := Option.some.inj ((List.getElem?_eq_getElem hi).symm.trans ej)
    have dr : k.2.drop j = jo :: k.2.drop (j + 1) := by rw [List.drop_eq_getElem_cons hi, pe]
    rw [dr] at hf
    unfold b1_breach
    simp only [fs_least_breach, gIsB, gNotB, D.adr.injEq, Cont.pool.injEq, ixN31, ne_eq, List.map_cons, List.map_nil, wPoolOpen, wPoolClose, wPop0, wPopTo, wListOwn, wRemove, wRaise0, wRaise1, wAugOwn, wEnumL, wTru, wSlA, gCatA, gLtT, gLeT, wFrz, wChain3, wAttr, wMkF, wEnumT, wRevT, wDict0, wDict1, numD3, Nat.reduceAdd, atI0, atI1, atI2, atI3, atI4, ixN51, ixN52, ixN53, List.length_map, wNever, scal, V.int.injEq, V.str.injEq, V.bl.injEq, wSq, wNext, wBreak, wCont, wDrop, wRet, wRetN, wIfS, wAsg, wPar, wLstOwn, wAppend, wSetOwn, wIxOwn, wPeek, wRetOwn, wRetFr, wFor, wB, wNot, wAnd, wOr, wAndV, wOrV, wNotV, wIf, wChain, wNil, wCons, wCB, wTup, wLst, wNoPart, wPart, wSlT, wSlL, wSeq, wRng1, wRng2, wZip, wName, wNilT, wConsT, wTupT, wYes, wNeg, wVar, wC, wOp, wcNil, wcCons, wcOwn, wCall, wCallOwn, slots, cellsOf, OwnArgs, putBack, g2I, g2IC, gLen, gAbs, gGcd, gInt1, gTupleOf, gListOf, gIx, gCatT, gCat, gEq, gNe, gIsN, gNotN, scD, seqD_t, seqD_l, seqD_f, isNonD, List.nodup_cons, List.mem_cons, List.not_mem_nil, or_false, not_false_eq_true, Nat.reduceEqDiff, L3.Keeps, ends, wipeD, List.replicate, List.cons_append, List.nil_append, List.append_nil, List.getElem?_cons_zero, List.getElem?_cons_succ, List.set_cons_zero, List.set_cons_succ, List.getD_cons_zero, List.getD_cons_succ, List.length_cons, List.length_nil, List.nodup_nil, Option.some.injEq, Cell.dat.injEq, Cell.own.injEq, Cont.lst.injEq, D.bl.injEq, D.int.injEq, D.str.injEq, D.tup.injEq, D.lst.injEq, Arg.d.injEq, List.cons.injEq, exists_and_left, exists_and_right, exists_eq_left', exists_eq_left, exists_eq_right, exists_eq_right', exists_eq, exists_eq', and_true, true_and, and_assoc, and_self, exists_const, reduceCtorEq]
    refine ⟨_, rfl, _, rfl, ss, rfl, k.1, rfl, jo, rfl, hs, hk.1, hk.2.2 jo (List.mem_of_getElem? ej), ?_⟩
    cases el : leastJ ss k.1 jo with
    | none =>
      have e1 : firstJ ss k.1 (jo :: k.2.drop (j + 1)) = firstJ ss k.1 (k.2.drop (j + 1)) := by rw [firstJ, el]
      have e2 : lbD ss k.1 jo = .non := by unfold lbD; rw [el]
      rw [e1] at hf
      rw [e2]
      exact ⟨fun z => (nomatch z), fun _ => ⟨_, _, rfl, hf⟩⟩
    | some n =>
      have e1 : firstJ ss k.1 (jo :: k.2.drop (j + 1)) = some (jo, n) := by rw [firstJ, el]
      have e2 : lbD ss k.1 jo = nf n (grJ ss jo) := by unfold lbD; rw [el]
      rw [e1] at hf
      rw [e2]
      exact ⟨fun _ => ⟨by decide, hr jo n _ _ hf.symm⟩, fun z => (nomatch z)⟩
  · rintro τ2 ⟨c4, c5, rfl, hf⟩
    rw [List.drop_length] at hf
    exact hn hf.symm _ _
def InvB3 (c0 : Cell) (ss : List So) (ks : List Ki) (i : Nat) (τ : List Cell) : Prop := ∃ c1 c2 c3 c4 c5 : Cell, τ = [c0, c1, c2, c3, c4, c5] ∧ firstK ss i (ks.drop i) = firstK ss 0 ks
theorem pure_breach {Z : CT} : PureD 1 5 (fs_breach K Z) (w_breach K Z) := by
  rintro cs q e - ⟨ss, ks, rfl, hb, hq⟩
  simp only [w_breach, gIsB, gNotB, D.adr.injEq, Cont.pool.injEq, ixN31, ne_eq, List.map_cons, List.map_nil, wPoolOpen, wPoolClose, wPop0, wPopTo, wListOwn, wRemove, wRaise0, wRaise1, wAugOwn, wEnumL, wTru, wSlA, gCatA, gLtT, gLeT, wFrz, wChain3, wAttr, wMkF, wEnumT, wRevT, wDict0, wDict1, numD3, Nat.reduceAdd, atI0, atI1, atI2, atI3, atI4, ixN51, ixN52, ixN53, List.length_map, wNever, scal, V.int.injEq, V.str.injEq, V.bl.injEq, wSq, wNext, wBreak, wCont, wDrop, wRet, wRetN, wIfS, wAsg, wPar, wLstOwn, wAppend, wSetOwn, wIxOwn, wPeek, wRetOwn, wRetFr, wFor, wB, wNot, wAnd, wOr, wAndV, wOrV, wNotV, wIf, wChain, wNil, wCons, wCB, wTup, wLst, wNoPart, wPart, wSlT, wSlL, wSeq, wRng1, wRng2, wZip, wName, wNilT, wConsT, wTupT, wYes, wNeg, wVar, wC, wOp, wcNil, wcCons, wcOwn, wCall, wCallOwn, slots, cellsOf, OwnArgs, putBack, g2I, g2IC, gLen, gAbs, gGcd, gInt1, gTupleOf, gListOf, gIx, gCatT, gCat, gEq, gNe, gIsN, gNotN, scD, seqD_t, seqD_l, seqD_f, isNonD, List.nodup_cons, List.mem_cons, List.not_mem_nil, or_false, not_false_eq_true, Nat.reduceEqDiff, L3.Keeps, ends, wipeD, List.replicate, List.cons_append, List.nil_append, List.append_nil, List.getElem?_cons_zero, List.getElem?_cons_succ, List.set_cons_zero, List.set_cons_succ, List.getD_cons_zero, List.getD_cons_succ, List.length_cons, List.length_nil, List.nodup_nil, Option.some.injEq, Cell.dat.injEq, Cell.own.injEq, Cont.lst.injEq, D.bl.injEq, D.int.injEq, D.str.injEq, D.tup.injEq, D.lst.injEq, Arg.d.injEq, List.cons.injEq, exists_and_left, exists_and_right, exists_eq_left', exists_eq_left, exists_eq_right, exists_eq_right', exists_eq, exists_eq', and_true, true_and, and_assoc, and_self, exists_const, reduceCtorEq]
  unfold l3_breach wFor
  simp only [gIsB, gNotB, D.adr.injEq, Cont.pool.injEq, ixN31, ne_eq, List.map_cons, List.map_nil, wPoolOpen, wPoolClose, wPop0, wPopTo, wListOwn, wRemove, wRaise0, wRaise1, wAugOwn, wEnumL, wTru, wSlA, gCatA, gLtT, gLeT, wFrz, wChain3, wAttr, wMkF, wEnumT, wRevT, wDict0, wDict1, numD3, Nat.reduceAdd, atI0, atI1, atI2, atI3, atI4, ixN51, ixN52, ixN53, List.length_map, wNever, scal, V.int.injEq, V.str.injEq, V.bl.injEq, wSq, wNext, wBreak, wCont, wDrop, wRet, wRetN, wIfS, wAsg, wPar, wLstOwn, wAppend, wSetOwn, wIxOwn, wPeek, wRetOwn, wRetFr, wFor, wB, wNot, wAnd, wOr, wAndV, wOrV, wNotV, wIf, wChain, wNil, wCons, wCB, wTup, wLst, wNoPart, wPart, wSlT, wSlL, wSeq, wRng1, wRng2, wZip, wName, wNilT, wConsT, wTupT, wYes, wNeg, wVar, wC, wOp, wcNil, wcCons, wcOwn, wCall, wCallOwn, slots, cellsOf, OwnArgs, putBack, g2I, g2IC, gLen, gAbs, gGcd, gInt1, gTupleOf, gListOf, gIx, gCatT, gCat, gEq, gNe, gIsN, gNotN, scD, seqD_t, seqD_l, seqD_f, isNonD, List.nodup_cons, List.mem_cons, List.not_mem_nil, or_false, not_false_eq_true, Nat.reduceEqDiff, L3.Keeps, ends, wipeD, List.replicate, List.cons_append, List.nil_append, List.append_nil, List.getElem?_cons_zero, List.getElem?_cons_succ, List.set_cons_zero, List.set_cons_succ, List.getD_cons_zero, List.getD_cons_succ, List.length_cons, List.length_nil, List.nodup_nil, Option.some.injEq, Cell.dat.injEq, Cell.own.injEq, Cont.lst.injEq, D.bl.injEq, D.int.injEq, D.str.injEq, D.tup.injEq, D.lst.injEq, Arg.d.injEq, List.cons.injEq, exists_and_left, exists_and_right, exists_eq_left', exists_eq_left, exists_eq_right, exists_eq_right', exists_eq, exists_eq', and_true, true_and, and_assoc, and_self, exists_const, reduceCtorEq]
  refine ⟨_, rfl, _, rfl, _, rfl, InvB3 (.dat (bookI Z (sosD ss) (kisD ks))) ss ks, ⟨_, _, _, _, _, rfl, rfl⟩, ?_, ?_⟩
  · rintro i d τ2 hd ⟨c1, c2, c3, c4, c5, rfl, hf⟩
    rw [List.getElem?_mapIdx, List.getElem?_map] at hd
    cases ek : ks[i]? with
    | none => rw [ek] at hd; cases hd
    | some k =>
      rw [ek] at hd
      cases hd
      have hi := (List.getElem?_eq_some_iff.mp ek).1
      have pe : ks[i] = k := Option.some.inj ((List.getElem?_eq_getElem hi).symm.trans ek)
      have dr : ks.drop i = k :: ks.drop (i + 1) := by rw [List.drop_eq_getElem_cons hi, pe]
      rw [dr] at hf
      simp only [wTupT, wConsT, kiD, gIsB, gNotB, D.adr.injEq, Cont.pool.injEq, ixN31, ne_eq, List.map_cons, List.map_nil, wPoolOpen, wPoolClose, wPop0, wPopTo, wListOwn, wRemove, wRaise0, wRaise1, wAugOwn, wEnumL, wTru, wSlA, gCatA, gLtT, gLeT, wFrz, wChain3, wAttr, wMkF, wEnumT, wRevT, wDict0, wDict1, numD3, Nat.reduceAdd, atI0, atI1, atI2, atI3, atI4, ixN51, ixN52, ixN53, List.length_map, wNever, scal, V.int.injEq, V.str.injEq, V.bl.injEq, wSq, wNext, wBreak, wCont, wDrop, wRet, wRetN, wIfS, wAsg, wPar, wLstOwn, wAppend, wSetOwn, wIxOwn, wPeek, wRetOwn, wRetFr, wFor, wB, wNot, wAnd, wOr, wAndV, wOrV, wNotV, wIf, wChain, wNil, wCons, wCB, wTup, wLst, wNoPart, wPart, wSlT, wSlL, wSeq, wRng1, wRng2, wZip, wName, wNilT, wConsT, wTupT, wYes, wNeg, wVar, wC, wOp, wcNil, wcCons, wcOwn, wCall, wCallOwn, slots, cellsOf, OwnArgs, putBack, g2I, g2IC, gLen, gAbs, gGcd, gInt1, gTupleOf, gListOf, gIx, gCatT, gCat, gEq, gNe, gIsN, gNotN, scD, seqD_t, seqD_l, seqD_f, isNonD, List.nodup_cons, List.mem_cons, List.not_mem_nil, or_false, not_false_eq_true, Nat.reduceEqDiff, L3.Keeps, ends, wipeD, List.replicate, List.cons_append, List.nil_append, List.append_nil, List.getElem?_cons_zero, List.getElem?_cons_succ, List.set_cons_zero, List.set_cons_succ, List.getD_cons_zero, List.getD_cons_succ, List.length_cons, List.length_nil, List.nodup_nil, Option.some.injEq, Cell.dat.injEq, Cell.own.injEq, Cont.lst.injEq, D.bl.injEq, D.int.injEq, D.str.injEq, D.tup.injEq, D.lst.injEq, Arg.d.injEq, List.cons.injEq, exists_and_left, exists_and_right, exists_eq_left', exists_eq_left, exists_eq_right, exists_eq_right', exists_eq, exists_eq', and_true, true_and, and_assoc, and_self, exists_const, reduceCtorEq]
      unfold b3_breach
      refine l1_breach_ok hb.s (hb.k k (List.mem_of_getElem? ek)) (fun z c4 c5 => ?_) (fun jo n c4 c5 z => ?_)
      · rw [firstK, z] at hf
        exact ⟨_, _, _, _, _, rfl, hf⟩
      · rw [firstK, z] at hf
        rw [← hf] at hq
        simp only [gIsB, gNotB, D.adr.injEq, Cont.pool.injEq, ixN31, ne_eq, List.map_cons, List.map_nil, wPoolOpen, wPoolClose, wPop0, wPopTo, wListOwn, wRemove, wRaise0, wRaise1, wAugOwn, wEnumL, wTru, wSlA, gCatA, gLtT, gLeT, wFrz, wChain3, wAttr, wMkF, wEnumT, wRevT, wDict0, wDict1, numD3, Nat.reduceAdd, atI0, atI1, atI2, atI3, atI4, ixN51, ixN52, ixN53, List.length_map, wNever, scal, V.int.injEq, V.str.injEq, V.bl.injEq, wSq, wNext, wBreak, wCont, wDrop, wRet, wRetN, wIfS, wAsg, wPar, wLstOwn, wAppend, wSetOwn, wIxOwn, wPeek, wRetOwn, wRetFr, wFor, wB, wNot, wAnd, wOr, wAndV, wOrV, wNotV, wIf, wChain, wNil, wCons, wCB, wTup, wLst, wNoPart, wPart, wSlT, wSlL, wSeq, wRng1, wRng2, wZip, wName, wNilT, wConsT, wTupT, wYes, wNeg, wVar, wC, wOp, wcNil, wcCons, wcOwn, wCall, wCallOwn, slots, cellsOf, OwnArgs, putBack, g2I, g2IC, gLen, gAbs, gGcd, gInt1, gTupleOf, gListOf, gIx, gCatT, gCat, gEq, gNe, gIsN, gNotN, scD, seqD_t, seqD_l, seqD_f, isNonD, List.nodup_cons, List.mem_cons, List.not_mem_nil, or_false, not_false_eq_true, Nat.reduceEqDiff, L3.Keeps, ends, wipeD, List.replicate, List.cons_append, List.nil_append, List.append_nil, List.getElem?_cons_zero, List.getElem?_cons_succ, List.set_cons_zero, List.set_cons_succ, List.getD_cons_zero, List.getD_cons_succ, List.length_cons, List.length_nil, List.nodup_nil, Option.some.injEq, Cell.dat.injEq, Cell.own.injEq, Cont.lst.injEq, D.bl.injEq, D.int.injEq, D.str.injEq, D.tup.injEq, D.lst.injEq, Arg.d.injEq, List.cons.injEq, exists_and_left, exists_and_right, exists_eq_left', exists_eq_left, exists_eq_right, exists_eq_right', exists_eq, exists_eq', and_true, true_and, and_assoc, and_self, exists_const, reduceCtorEq]
        exact hq
  · rintro τ2 ⟨c1, c2, c3, c4, c5, rfl, hf⟩
    rw [List.length_mapIdx, List.length_map, List.drop_length] at hf
    rw [← hf] at hq
    simp only [gIsB, gNotB, D.adr.injEq, Cont.pool.injEq, ixN31, ne_eq, List.map_cons, List.map_nil, wPoolOpen, wPoolClose, wPop0, wPopTo, wListOwn, wRemove, wRaise0, wRaise1, wAugOwn, wEnumL, wTru, wSlA, gCatA, gLtT, gLeT, wFrz, wChain3, wAttr, wMkF, wEnumT, wRevT, wDict0, wDict1, numD3, Nat.reduceAdd, atI0, atI1, atI2, atI3, atI4, ixN51, ixN52, ixN53, List.length_map, wNever, scal, V.int.injEq, V.str.injEq, V.bl.injEq, wSq, wNext, wBreak, wCont, wDrop, wRet, wRetN, wIfS, wAsg, wPar, wLstOwn, wAppend, wSetOwn, wIxOwn, wPeek, wRetOwn, wRetFr, wFor, wB, wNot, wAnd, wOr, wAndV, wOrV, wNotV, wIf, wChain, wNil, wCons, wCB, wTup, wLst, wNoPart, wPart, wSlT, wSlL, wSeq, wRng1, wRng2, wZip, wName, wNilT, wConsT, wTupT, wYes, wNeg, wVar, wC, wOp, wcNil, wcCons, wcOwn, wCall, wCallOwn, slots, cellsOf, OwnArgs, putBack, g2I, g2IC, gLen, gAbs, gGcd, gInt1, gTupleOf, gListOf, gIx, gCatT, gCat, gEq, gNe, gIsN, gNotN, scD, seqD_t, seqD_l, seqD_f, isNonD, List.nodup_cons, List.mem_cons, List.not_mem_nil, or_false, not_false_eq_true, Nat.reduceEqDiff, L3.Keeps, ends, wipeD, List.replicate, List.cons_append, List.nil_append, List.append_nil, List.getElem?_cons_zero, List.getElem?_cons_succ, List.set_cons_zero, List.set_cons_succ, List.getD_cons_zero, List.getD_cons_succ, List.length_cons, List.length_nil, List.nodup_nil, Option.some.injEq, Cell.dat.injEq, Cell.own.injEq, Cont.lst.injEq, D.bl.injEq, D.int.injEq, D.str.injEq, D.tup.injEq, D.lst.injEq, Arg.d.injEq, List.cons.injEq, exists_and_left, exists_and_right, exists_eq_left', exists_eq_left, exists_eq_right, exists_eq_right', exists_eq, exists_eq', and_true, true_and, and_assoc, and_self, exists_const, reduceCtorEq]
    exact hq
theorem ok_breach (T : Txt K mg) : FnOk P w K mg base (L2.CX P w) 5 T.f_breach T.fd_breach ["book"] (spOf K 1 (fs_breach K T.Z)) := by
  refine def_ok T.F_breach sc_breach (wb := w_breach K T.Z) pure_breach ?_
  intro cdv A outer s H E hr tk
  exact ⟨_, (pss_cons (ps_for (passes_of rfl) rfl (pi_enumT (by rfl) T.z_enumerate (pa_cons (pe_fld (pv 0) rfl) pa_nil)) (pg_tup (by rfl) (pgs_cons (pg_name (i := 1) sc_breach.nd rfl (by first | exact Or.inl rfl | exact Or.inr rfl)) (pgs_cons (pg_tup (by rfl) (pgs_cons (pg_name (i := 2) sc_breach.nd rfl (by first | exact Or.inl rfl | exact Or.inr rfl)) (pgs_cons (pg_name (i := 3) sc_breach.nd rfl (by first | exact Or.inl rfl | exact Or.inr rfl)) pgs_nil))) pgs_nil)))
        (pss_one (ps_for (passes_of rfl) rfl (pi_seq (pv 3)) (pg_name (i := 4) sc_breach.nd rfl (by first | exact Or.inl rfl | exact Or.inr rfl))
        (pss_cons (ps_set (i := 5) sc_breach.nd rfl (by first | exact Or.inl rfl | exact Or.inr rfl) (pe_callS (ok_least_breach T) (hr.mono (by decide)) rfl T.g_least_breach T.k_least_breach T.b_least_breach (fun σ => passAt tk σ) (pa_cons (pe_fld (pv 0) rfl) (pa_cons (pv 2) (pa_cons (pv 4) pa_nil)))))
      (pss_one (ps_if (pt_cmpR op_notN (pv 5) pe_non (nomark _))
        (pss_one (ps_ret (pe_tup (pa_cons (pv 1) (pa_cons (pv 4) (pa_cons (pv 5) pa_nil))))))
        pss_nil))))))
      (pss_one (ps_ret pe_non))),
    (ds_seq (ds_for (wI := (wEnumT (wCons (wAttr T.Z.C_Book "kinds" (wVar 0)) wNil))) (wg := (wTupT 2 (wConsT (wName 1) (wConsT (wTupT 2 (wConsT (wName 2) (wConsT (wName 3) wNilT))) wNilT)))) (wb := (l1_breach K T.Z)) (di_enumT (da_cons (de_fld T.it_Book.cl T.na_Book_kinds (de_var 0)) da_nil)) (dg_tup (n := 2) (dgs_cons (dg_name 1) (dgs_cons (dg_tup (n := 2) (dgs_cons (dg_name 2) (dgs_cons (dg_name 3) dgs_nil))) dgs_nil))) (ds_for (wI := (wSeq (wVar 3))) (wg := (wName 4)) (wb := (wSq (wAsg (wCall 3 (fs_least_breach K) (wcCons (wAttr T.Z.C_Book "sorts" (wVar 0)) (wcCons (wVar 2) (wcCons (wVar 4) wcNil)))) (wName 5))
  (wIfS (wB (wOp gNotN (wVar 5) (wC .non))) (wRet (wTup (wCons (wVar 1) (wCons (wVar 4) (wCons (wVar 5) wNil))))) wNext))) (di_seq (de_var 3)) (dg_name 4) (ds_seq (ds_asg (de_call (n := 3) (fs := fs_least_breach K) (dac_cons (de_fld T.it_Book.cl T.na_Book_sorts (de_var 0)) (dac_cons (de_var 2) (dac_cons (de_var 4) dac_nil)))) (dg_name 5))
      (ds_if (dt_B (de_op o_notN (de_var 5) de_non)) (ds_ret (de_tup (da_cons (de_var 1) (da_cons (de_var 4) (da_cons (de_var 5) da_nil))))) ds_nil))))
      (ds_ret de_non))⟩
abbrev s_loss_of : Stmt := topS 52
theorem sc_loss_of : FnScope ["book", "least", "thresholds", "joins", "i", "j", "space", "drop", "many", "lost"] ["book"] (defScope s_loss_of) := ⟨rfl, rfl, rfl, by decide +kernel, rfl, by decide +kernel, by decide +kernel⟩
def b1_loss_of (K : PySem.W.Frag) (Z : CT) : SW := (wSq (wAsg (wCall 2 (fs_minus K) (wcCons (wCall 2 (fs_times K) (wcCons (wC (.int 2)) (wcCons (wVar 7) wcNil))) (wcCons (wCall 2 (fs_times K) (wcCons (wVar 8) (wcCons (wVar 6) wcNil))) wcNil))) (wName 9))
  (wIfS (wOr (wB (wOp gIsN (wVar 1) (wC .non))) (wB (wCall 2 (fs_at_most K) (wcCons (wVar 9) (wcCons (wVar 1) wcNil))))) (wAsg (wVar 9) (wName 1)) wNext))
def l1_loss_of (K : PySem.W.Frag) (Z : CT) : SW := wFor (wSeq (wCall 2 (fs_onsets K) (wcCons (wVar 2) (wcCons (wCall 3 (fs_grains_of K) (wcCons (wAttr Z.C_Book "sorts" (wVar 0)) (wcCons (wVar 4) (wcCons (wVar 5) wcNil)))) wcNil)))) (wTupT 2 (wConsT (wName 7) (wConsT (wName 8) wNilT))) (b1_loss_of K Z)
def b3_loss_of (K : PySem.W.Frag) (Z : CT) : SW := (wSq (wAsg (wCall 3 (fs_room_of K) (wcCons (wAttr Z.C_Book "sorts" (wVar 0)) (wcCons (wVar 4) (wcCons (wVar 5) wcNil)))) (wName 6))
  (l1_loss_of K Z))
def l3_loss_of (K : PySem.W.Frag) (Z : CT) : SW := wFor (wSeq (wVar 3)) (wTupT 2 (wConsT (wName 4) (wConsT (wName 5) wNilT))) (b3_loss_of K Z)
def b5_loss_of (K : PySem.W.Frag) (Z : CT) : SW := (l3_loss_of K Z)
def l5_loss_of (K : PySem.W.Frag) (Z : CT) : SW := wFor (wSeq (wAttr Z.C_Book "kinds" (wVar 0))) (wTupT 2 (wConsT (wName 2) (wConsT (wName 3) wNilT))) (b5_loss_of K Z)
def w_loss_of (K : PySem.W.Frag) (Z : CT) : SW := (wSq (wAsg (wC .non) (wName 1))
  (wSq (l5_loss_of K Z)
  (wRet (wVar 1))))
/-- a fraction in lowest terms, as a pair -/
def nfT (t b : Int) : Th := (t / ((Nat.gcd t.natAbs b.natAbs : Nat) : Int), b / ((Nat.gcd t.natAbs b.natAbs : Nat) : Int))
theorem nfT_eq (t b : Int) : nf t b = thD (nfT t b) := rfl
theorem thD_inj {a b : Th} (h : thD a = thD b) : a = b := by
  unfold thD at h
  simp only [D.tup.injEq, List.cons.injEq, D.int.injEq, and_true] at h
  exact Prod.ext h.1 h.2
theorem nfT_facts {x g : Int} (h : 0 < g) : (nfT x g).1 * g = x * (nfT x g).2 ∧ 0 < (nfT x g).2 ∧ (nfT x g).1.natAbs ≤ x.natAbs ∧ (nfT x g).2.natAbs ≤ g.natAbs := by
  obtain ⟨u, e, h1, h2, h3, h4⟩ := nf_th (x := x) h
  have : nfT x g = u := thD_inj e
  rw [this]
  exact ⟨h1, h2, h3, h4⟩
/-- the lesser one, the new one if they are equal -/
def lossS (a : Option Th) (x : Th) : Option Th := match a with | none => some x | some l => if x.1 * l.2 ≤ l.1 * x.2 then some x else some l
def lossP (g R : Int) (l : List (Int × Nat)) (a : Option Th) : Option Th := l.foldl (fun a p => lossS a (nfT (2 * p.1 - (p.2 : Int) * R) g)) a
def rmL (ss : List So) (jo : Jo) : Int := match ss[jo.1]?, ss[jo.2]? with
  | some s, some t => roomG s t
  | _, _ => 0
def lossJ (ss : List So) (ts : List Th) (a : Option Th) (jo : Jo) : Option Th := lossP (grJ ss jo) (rmL ss jo) (onsN (ts.map (stpI (grJ ss jo))) 0) a
def lossK (ss : List So) (a : Option Th) (k : Ki) : Option Th := k.2.foldl (lossJ ss k.1) a
def lossB (ss : List So) (ks : List Ki) : Option Th := ks.foldl (lossK ss) none
def thO : Option Th → D | none => .non | some t => thD t
def SmO (a : Option Th) : Prop := ∀ t, a = some t → t.1.natAbs < 2 ^ 60 ∧ t.2.natAbs < 2 ^ 60
def fs_loss_of (K : PySem.W.Frag) (Z : CT) : FS := fun cs q _ => ∃ (ss : List So) (ks : List Ki), cs = [.dat (bookI Z (sosD ss) (kisD ks))] ∧ BkV ss ks ∧ q (thO (lossB ss ks)) cs
theorem stp_b {t : Th} {g : Int} (h : ThOk t) (g1 : 1 ≤ g) (g2 : g ≤ 132) : 0 ≤ stpI g t ∧ stpI g t ≤ 200000000 := by
  have := h.b
  unfold stpI
  have h1 : t.1 * g ≤ 1000000 * 132 := Int.mul_le_mul (by omega) g2 (by omega) (by decide)
  have h2 : 0 ≤ t.1 * g := Int.mul_nonneg (by omega) (by omega)
  have h3 : (t.1 * g + t.2 - 1) / t.2 ≤ t.1 * g + t.2 - 1 := Int.ediv_le_self _ (by omega)
  have h4 : 0 ≤ (t.1 * g + t.2 - 1) / t.2 := Int.ediv_nonneg (by omega) (by omega)
  omega
theorem ons_fst : ∀ (l : List Int) (k : Nat) (p : Int × Nat), p ∈ onsN l k → p.1 ∈ l
  | [], _, p, h => by simp [onsN] at h
  | [x], k, p, h => by
    have : p = (x, k + 1) := by simpa [onsN] using h
    subst this
    simp
  | x :: y :: r, k, p, h => by
    unfold onsN at h
    split at h
    · exact List.mem_cons_of_mem _ (ons_fst (y :: r) (k + 1) p h)
    · rcases List.mem_cons.mp h with rfl | h
      · simp
      · exact List.mem_cons_of_mem _ (ons_fst (y :: r) (k + 1) p h)
def InvL1 (c0 c2 c3 c4 c5 : Cell) (sp : D) (g R : Int) (L : List (Int × Nat)) (z : Option Th) (i : Nat) (τ : List Cell) : Prop := ∃ (a : Option Th) (c7 c8 c9 : Cell), τ = [c0, .dat (thO a), c2, c3, c4, c5, .dat sp, c7, c8, c9] ∧ SmO a ∧ lossP g R (L.drop i) a = z
theorem loss_step {x g R : Int} {m : Int} {u v w : Th} (hg : 0 < g) (hu : u.1 * g = R * u.2) (hu2 : 0 < u.2) (hv : nfT (2 * (nfT x g).1) (nfT x g).2 = v) (hw : nfT (m * u.1) u.2 = w) :
    0 < v.2 ∧ 0 < w.2 ∧ v.1.natAbs ≤ 2 * x.natAbs ∧ v.2.natAbs ≤ g.natAbs ∧ w.1.natAbs ≤ (m * u.1).natAbs ∧ w.2.natAbs ≤ u.2.natAbs ∧ nfT (v.1 * w.2 - w.1 * v.2) (v.2 * w.2) = nfT (2 * x - m * R) g := by
  obtain ⟨x1, x2, x3, x4⟩ := nfT_facts (x := x) hg
  obtain ⟨v1, v2, v3, v4⟩ := nfT_facts (x := 2 * (nfT x g).1) x2
  obtain ⟨w1, w2, w3, w4⟩ := nfT_facts (x := m * u.1) hu2
  rw [hv] at v1 v2 v3 v4
  rw [hw] at w1 w2 w3 w4
  refine ⟨v2, w2, by omega, by omega, w3, w4, ?_⟩
  have vg : v.1 * g = 2 * x * v.2 := by
    have : (v.1 * g) * (nfT x g).2 = (2 * x * v.2) * (nfT x g).2 := by
      calc v.1 * g * (nfT x g).2 = (v.1 * (nfT x g).2) * g := by ac_rfl
        _ = (2 * (nfT x g).1 * v.2) * g := by rw [v1]
        _ = 2 * ((nfT x g).1 * g) * v.2 := by ac_rfl
        _ = 2 * (x * (nfT x g).2) * v.2 := by rw [x1]
        _ = _ := by ac_rfl
    exact Int.eq_of_mul_eq_mul_right (by omega) this
  have wg : w.1 * g = m * R * w.2 := by
    have : (w.1 * g) * u.2 = (m * R * w.2) * u.2 := by
      calc w.1 * g * u.2 = (w.1 * u.2) * g := by ac_rfl
        _ = (m * u.1 * w.2) * g := by rw [w1]
        _ = m * (u.1 * g) * w.2 := by ac_rfl
        _ = m * (R * u.2) * w.2 := by rw [hu]
        _ = _ := by ac_rfl
    exact Int.eq_of_mul_eq_mul_right (by omega) this
  refine thD_inj ?_
  rw [← nfT_eq, ← nfT_eq]
  refine nf_eq (Int.mul_pos v2 w2) hg ?_
  rw [Int.sub_mul, Int.sub_mul]
  congr 1
  · calc v.1 * w.2 * g = (v.1 * g) * w.2 := by ac_rfl
      _ = (2 * x * v.2) * w.2 := by rw [vg]
      _ = _ := by ac_rfl
  · calc w.1 * v.2 * g = (w.1 * g) * v.2 := by ac_rfl
      _ = (m * R * w.2) * v.2 := by rw [wg]
      _ = _ := by ac_rfl
theorem lossS_sm {a : Option Th} {x : Th} (h : SmO a) (hx : x.1.natAbs < 2 ^ 60 ∧ x.2.natAbs < 2 ^ 60) : SmO (lossS a x) := by
  intro t e
  unfold lossS at e
  cases a with
  | none => cases e; exact hx
  | some l =>
    have e : (if x.1 * l.2 ≤ l.1 * x.2 then some x else some l) = some t := e
    split at e
    · cases e; exact hx
    · cases e; exact h _ rfl
theorem b1_loss_of_ok {Z : CT} {c0 c2 c3 c4 c5 c9 : Cell} {g R : Int} {u : Th} {a : Option Th} {x : Int} {m : Nat} {E : EndsD} (hg : 0 < g) (hg2 : g ≤ 132) (hx : x.natAbs ≤ 200000000) (hm : m ≤ 6) (hu : u.1 * g = R * u.2) (hu2 : 0 < u.2) (ub : u.1.natAbs ≤ 2000 ∧ u.2.natAbs ≤ 132) (hR : R.natAbs ≤ 2000) (ha : SmO a)
    (hn : ∀ c9, SmO (lossS a (nfT (2 * x - (m : Int) * R) g)) → E.nx [c0, .dat (thO (lossS a (nfT (2 * x - (m : Int) * R) g))), c2, c3, c4, c5, .dat (thD u), .dat (nf x g), .dat (.int (m : Nat)), c9]) :
    b1_loss_of K Z E [c0, .dat (thO a), c2, c3, c4, c5, .dat (thD u), .dat (nf x g), .dat (.int (m : Nat)), c9] := by
  generalize hv : nfT (2 * (nfT x g).1) (nfT x g).2 = v
  generalize hw : nfT ((m : Int) * u.1) u.2 = w
  obtain ⟨v0, w0, v1, v2, w1, w2, en⟩ := loss_step (x := x) (m := (m : Int)) hg hu hu2 hv hw
  obtain ⟨x1, x2, x3, x4⟩ := nfT_facts (x := x) hg
  obtain ⟨y1, y2, y3, y4⟩ := nfT_facts (x := 2 * x - (m : Int) * R) hg
  have mu : ((m : Int) * u.1).natAbs ≤ 6 * 2000 := by
    rw [Int.natAbs_mul]
    exact Nat.mul_le_mul (by omega) ub.1
  have mR : ((m : Int) * R).natAbs ≤ 6 * 2000 := by
    rw [Int.natAbs_mul]
    exact Nat.mul_le_mul (by omega) hR
  have big : ∀ {k : Int}, k.natAbs < 2 ^ 60 → k.natAbs < 2 ^ 400 := fun {k} h => Nat.lt_of_lt_of_le h (pow_le (by decide))
  have ym : (nfT (2 * x - (m : Int) * R) g).1.natAbs < 2 ^ 60 ∧ (nfT (2 * x - (m : Int) * R) g).2.natAbs < 2 ^ 60 := by omega
  have hs := lossS_sm ha ym
  have hn := fun c9 => hn c9 hs
  generalize hy : nfT (2 * x - (m : Int) * R) g = y at *
  unfold b1_loss_of
  simp only [fs_minus, fs_times, fs_at_most, nfT_eq, thD, hv, hw, en, hy, gIsB, gNotB, D.adr.injEq, Cont.pool.injEq, ixN31, ne_eq, List.map_cons, List.map_nil, wPoolOpen, wPoolClose, wPop0, wPopTo, wListOwn, wRemove, wRaise0, wRaise1, wAugOwn, wEnumL, wTru, wSlA, gCatA, gLtT, gLeT, wFrz, wChain3, wAttr, wMkF, wEnumT, wRevT, wDict0, wDict1, numD3, Nat.reduceAdd, atI0, atI1, atI2, atI3, atI4, ixN51, ixN52, ixN53, List.length_map, wNever, scal, V.int.injEq, V.str.injEq, V.bl.injEq, wSq, wNext, wBreak, wCont, wDrop, wRet, wRetN, wIfS, wAsg, wPar, wLstOwn, wAppend, wSetOwn, wIxOwn, wPeek, wRetOwn, wRetFr, wFor, wB, wNot, wAnd, wOr, wAndV, wOrV, wNotV, wIf, wChain, wNil, wCons, wCB, wTup, wLst, wNoPart, wPart, wSlT, wSlL, wSeq, wRng1, wRng2, wZip, wName, wNilT, wConsT, wTupT, wYes, wNeg, wVar, wC, wOp, wcNil, wcCons, wcOwn, wCall, wCallOwn, slots, cellsOf, OwnArgs, putBack, g2I, g2IC, gLen, gAbs, gGcd, gInt1, gTupleOf, gListOf, gIx, gCatT, gCat, gEq, gNe, gIsN, gNotN, scD, seqD_t, seqD_l, seqD_f, isNonD, List.nodup_cons, List.mem_cons, List.not_mem_nil, or_false, not_false_eq_true, Nat.reduceEqDiff, L3.Keeps, ends, wipeD, List.replicate, List.cons_append, List.nil_append, List.append_nil, List.getElem?_cons_zero, List.getElem?_cons_succ, List.set_cons_zero, List.set_cons_succ, List.getD_cons_zero, List.getD_cons_succ, List.length_cons, List.length_nil, List.nodup_nil, Option.some.injEq, Cell.dat.injEq, Cell.own.injEq, Cont.lst.injEq, D.bl.injEq, D.int.injEq, D.str.injEq, D.tup.injEq, D.lst.injEq, Arg.d.injEq, List.cons.injEq, exists_and_left, exists_and_right, exists_eq_left', exists_eq_left, exists_eq_right, exists_eq_right', exists_eq, exists_eq', and_true, true_and, and_assoc, and_self, exists_const, reduceCtorEq]
  rw [nfT_eq] at hn
  refine ⟨x2, ⟨big (by omega), big (by omega)⟩, big (by decide), hu2, ⟨big (by omega), big (by omega)⟩, big (by omega), v0, w0, ⟨big (by omega), big (by omega)⟩, ⟨big (by omega), big (by omega)⟩, ?_⟩
  cases a with
  | none => exact ⟨fun z => (nomatch z), fun _ => ⟨fun _ => hn _, fun z => z.elim⟩⟩
  | some l =>
    have hl := ha l rfl
    refine ⟨fun _ => ⟨l.1, l.2, rfl, cmul_l (by omega) (by omega), cmul_r (by omega) (by omega), fun z => ?_, fun z => ?_⟩, fun z => (nomatch z)⟩
    · have e : lossS (some l) y = some y := by unfold lossS; exact if_pos (of_decide_eq_true z)
      rw [e] at hn
      exact hn _
    · have e : lossS (some l) y = some l := by unfold lossS; exact if_neg (of_decide_eq_false z)
      rw [e] at hn
      exact hn _
theorem l1_loss_of_ok {Z : CT} {ss : List So} {ks : D} {ts : List Th} {c3 c7 c8 c9 : Cell} {jo : Jo} {a : Option Th} {E : EndsD} (hs : SoB ss) (ht : TsOk ts) (hj : JoV ss jo) (ha : SmO a)
    (hn : ∀ c6 c7 c8 c9, SmO (lossJ ss ts a jo) → E.nx [.dat (bookI Z (sosD ss) ks), .dat (thO (lossJ ss ts a jo)), .dat (stD ts), c3, .dat (.int jo.1), .dat (.int jo.2), c6, c7, c8, c9]) {c6 : Cell} :
    b3_loss_of K Z E [.dat (bookI Z (sosD ss) ks), .dat (thO a), .dat (stD ts), c3, .dat (.int jo.1), .dat (.int jo.2), c6, c7, c8, c9] := by
  obtain ⟨s, t, e1, e2, hnn⟩ := hj
  have b1 := hs s (List.mem_of_getElem? e1)
  have b2 := hs t (List.mem_of_getElem? e2)
  obtain ⟨g1, g2, _⟩ := gr_facts b1.1 b1.2.1 b2.1 b2.2.1 (by omega)
  obtain ⟨r0, r1⟩ := roomG_b b1 b2 hnn
  obtain ⟨u1, u2, u3, u4⟩ := nfT_facts (x := roomG s t) (g := grI s.1 t.1) (by omega)
  have er := room_nf b1 b2 hnn
  have eg : grJ ss jo = grI s.1 t.1 := by unfold grJ; rw [e1, e2]
  have eR : rmL ss jo = roomG s t := by unfold rmL; rw [e1, e2]
  unfold lossJ at hn
  rw [eg, eR] at hn
  generalize hG : grI s.1 t.1 = G at *
  generalize hR : roomG s t = R at *
  rw [nfT_eq R G] at er
  generalize hu : nfT R G = u at *
  generalize hL : onsN (ts.map (stpI G)) 0 = L at *
  have p1 : ∀ p ∈ L, p.2 ≤ 6 ∧ p.1.natAbs ≤ 200000000 := fun p hp => by
    rw [← hL] at hp
    have h1 := ons_mem (ts.map (stpI G)) 0 p hp
    have h2 := ons_fst (ts.map (stpI G)) 0 p hp
    obtain ⟨t', mt, e⟩ := List.mem_map.mp h2
    have h3 := stp_b (ht.2.2.1 t' mt) (by omega) (by omega) (g := G)
    rw [List.length_map] at h1
    have := ht.2.1
    omega
  unfold b3_loss_of
  simp only [fs_room_of, gIsB, gNotB, D.adr.injEq, Cont.pool.injEq, ixN31, ne_eq, List.map_cons, List.map_nil, wPoolOpen, wPoolClose, wPop0, wPopTo, wListOwn, wRemove, wRaise0, wRaise1, wAugOwn, wEnumL, wTru, wSlA, gCatA, gLtT, gLeT, wFrz, wChain3, wAttr, wMkF, wEnumT, wRevT, wDict0, wDict1, numD3, Nat.reduceAdd, atI0, atI1, atI2, atI3, atI4, ixN51, ixN52, ixN53, List.length_map, wNever, scal, V.int.injEq, V.str.injEq, V.bl.injEq, wSq, wNext, wBreak, wCont, wDrop, wRet, wRetN, wIfS, wAsg, wPar, wLstOwn, wAppend, wSetOwn, wIxOwn, wPeek, wRetOwn, wRetFr, wFor, wB, wNot, wAnd, wOr, wAndV, wOrV, wNotV, wIf, wChain, wNil, wCons, wCB, wTup, wLst, wNoPart, wPart, wSlT, wSlL, wSeq, wRng1, wRng2, wZip, wName, wNilT, wConsT, wTupT, wYes, wNeg, wVar, wC, wOp, wcNil, wcCons, wcOwn, wCall, wCallOwn, slots, cellsOf, OwnArgs, putBack, g2I, g2IC, gLen, gAbs, gGcd, gInt1, gTupleOf, gListOf, gIx, gCatT, gCat, gEq, gNe, gIsN, gNotN, scD, seqD_t, seqD_l, seqD_f, isNonD, List.nodup_cons, List.mem_cons, List.not_mem_nil, or_false, not_false_eq_true, Nat.reduceEqDiff, L3.Keeps, ends, wipeD, List.replicate, List.cons_append, List.nil_append, List.append_nil, List.getElem?_cons_zero, List.getElem?_cons_succ, List.set_cons_zero, List.set_cons_succ, List.getD_cons_zero, List.getD_cons_succ, List.length_cons, List.length_nil, List.nodup_nil, Option.some.injEq, Cell.dat.injEq, Cell.own.injEq, Cont.lst.injEq, D.bl.injEq, D.int.injEq, D.str.injEq, D.tup.injEq, D.lst.injEq, Arg.d.injEq, List.cons.injEq, exists_and_left, exists_and_right, exists_eq_left', exists_eq_left, exists_eq_right, exists_eq_right', exists_eq, exists_eq', and_true, true_and, and_assoc, and_self, exists_const, reduceCtorEq]
  refine ⟨_, rfl, _, rfl, ss, rfl, jo.1, rfl, jo.2, rfl, s, e1, t, e2, hs, ?_⟩
  rw [er]
  unfold l1_loss_of wFor
  simp only [fs_onsets, fs_grains_of, gIsB, gNotB, D.adr.injEq, Cont.pool.injEq, ixN31, ne_eq, List.map_cons, List.map_nil, wPoolOpen, wPoolClose, wPop0, wPopTo, wListOwn, wRemove, wRaise0, wRaise1, wAugOwn, wEnumL, wTru, wSlA, gCatA, gLtT, gLeT, wFrz, wChain3, wAttr, wMkF, wEnumT, wRevT, wDict0, wDict1, numD3, Nat.reduceAdd, atI0, atI1, atI2, atI3, atI4, ixN51, ixN52, ixN53, List.length_map, wNever, scal, V.int.injEq, V.str.injEq, V.bl.injEq, wSq, wNext, wBreak, wCont, wDrop, wRet, wRetN, wIfS, wAsg, wPar, wLstOwn, wAppend, wSetOwn, wIxOwn, wPeek, wRetOwn, wRetFr, wFor, wB, wNot, wAnd, wOr, wAndV, wOrV, wNotV, wIf, wChain, wNil, wCons, wCB, wTup, wLst, wNoPart, wPart, wSlT, wSlL, wSeq, wRng1, wRng2, wZip, wName, wNilT, wConsT, wTupT, wYes, wNeg, wVar, wC, wOp, wcNil, wcCons, wcOwn, wCall, wCallOwn, slots, cellsOf, OwnArgs, putBack, g2I, g2IC, gLen, gAbs, gGcd, gInt1, gTupleOf, gListOf, gIx, gCatT, gCat, gEq, gNe, gIsN, gNotN, scD, seqD_t, seqD_l, seqD_f, isNonD, List.nodup_cons, List.mem_cons, List.not_mem_nil, or_false, not_false_eq_true, Nat.reduceEqDiff, L3.Keeps, ends, wipeD, List.replicate, List.cons_append, List.nil_append, List.append_nil, List.getElem?_cons_zero, List.getElem?_cons_succ, List.set_cons_zero, List.set_cons_succ, List.getD_cons_zero, List.getD_cons_succ, List.length_cons, List.length_nil, List.nodup_nil, Option.some.injEq, Cell.dat.injEq, Cell.own.injEq, Cont.lst.injEq, D.bl.injEq, D.int.injEq, D.str.injEq, D.tup.injEq, D.lst.injEq, Arg.d.injEq, List.cons.injEq, exists_and_left, exists_and_right, exists_eq_left', exists_eq_left, exists_eq_right, exists_eq_right', exists_eq, exists_eq', and_true, true_and, and_assoc, and_self, exists_const, reduceCtorEq]
  refine ⟨_, rfl, _, rfl, ss, rfl, jo.1, rfl, jo.2, rfl, s, e1, t, e2, hs, hnn, ts, rfl, ht.2.1, ht.2.2.1, by omega, by omega, ?_⟩
  rw [hG, hL]
  refine ⟨InvL1 (.dat (bookI Z (sosD ss) ks)) (.dat (stD ts)) c3 (.dat (.int jo.1)) (.dat (.int jo.2)) (thD u) G R L (lossP G R L a), ⟨a, _, _, _, rfl, ha, rfl⟩, ?_, ?_⟩
  · rintro i d τ2 hd ⟨a', c7, c8, c9, rfl, ha', hf⟩
    rw [List.getElem?_map] at hd
    obtain ⟨p, ep, rfl⟩ := Option.map_eq_some_iff.mp hd
    have hi := (List.getElem?_eq_some_iff.mp ep).1
    have pe : L[i] = p := Option.some.inj ((List.getElem?_eq_getElem hi).symm.trans ep)
    have dr : L.drop i = p :: L.drop (i + 1) := by rw [List.drop_eq_getElem_cons hi, pe]
    have pb := p1 p (List.mem_of_getElem? ep)
    rw [dr] at hf
    simp only [onD, wTupT, wConsT, gIsB, gNotB, D.adr.injEq, Cont.pool.injEq, ixN31, ne_eq, List.map_cons, List.map_nil, wPoolOpen, wPoolClose, wPop0, wPopTo, wListOwn, wRemove, wRaise0, wRaise1, wAugOwn, wEnumL, wTru, wSlA, gCatA, gLtT, gLeT, wFrz, wChain3, wAttr, wMkF, wEnumT, wRevT, wDict0, wDict1, numD3, Nat.reduceAdd, atI0, atI1, atI2, atI3, atI4, ixN51, ixN52, ixN53, List.length_map, wNever, scal, V.int.injEq, V.str.injEq, V.bl.injEq, wSq, wNext, wBreak, wCont, wDrop, wRet, wRetN, wIfS, wAsg, wPar, wLstOwn, wAppend, wSetOwn, wIxOwn, wPeek, wRetOwn, wRetFr, wFor, wB, wNot, wAnd, wOr, wAndV, wOrV, wNotV, wIf, wChain, wNil, wCons, wCB, wTup, wLst, wNoPart, wPart, wSlT, wSlL, wSeq, wRng1, wRng2, wZip, wName, wNilT, wConsT, wTupT, wYes, wNeg, wVar, wC, wOp, wcNil, wcCons, wcOwn, wCall, wCallOwn, slots, cellsOf, OwnArgs, putBack, g2I, g2IC, gLen, gAbs, gGcd, gInt1, gTupleOf, gListOf, gIx, gCatT, gCat, gEq, gNe, gIsN, gNotN, scD, seqD_t, seqD_l, seqD_f, isNonD, List.nodup_cons, List.mem_cons, List.not_mem_nil, or_false, not_false_eq_true, Nat.reduceEqDiff, L3.Keeps, ends, wipeD, List.replicate, List.cons_append, List.nil_append, List.append_nil, List.getElem?_cons_zero, List.getElem?_cons_succ, List.set_cons_zero, List.set_cons_succ, List.getD_cons_zero, List.getD_cons_succ, List.length_cons, List.length_nil, List.nodup_nil, Option.some.injEq, Cell.dat.injEq, Cell.own.injEq, Cont.lst.injEq, D.bl.injEq, D.int.injEq, D.str.injEq, D.tup.injEq, D.lst.injEq, Arg.d.injEq, List.cons.injEq, exists_and_left, exists_and_right, exists_eq_left', exists_eq_left, exists_eq_right, exists_eq_right', exists_eq, exists_eq', and_true, true_and, and_assoc, and_self, exists_const, reduceCtorEq]
    refine b1_loss_of_ok (by omega) (by omega) pb.2 pb.1 u1 u2 ⟨by omega, by omega⟩ (by omega) ha' fun c9 hm => ?_
    exact ⟨_, _, _, _, rfl, hm, hf⟩
  · rintro τ2 ⟨a', c7, c8, c9, rfl, ha', hf⟩
    rw [List.drop_length] at hf
    have hf : a' = lossP G R L a := hf
    rw [hf] at ha'
    rw [hf]
    exact hn _ _ _ _ ha'
def InvL3 (c0 c2 : Cell) (ss : List So) (ts : List Th) (js : List Jo) (z : Option Th) (i : Nat) (τ : List Cell) : Prop := ∃ (a : Option Th) (c4 c5 c6 c7 c8 c9 : Cell), τ = [c0, .dat (thO a), c2, .dat (.tup (js.map joD)), c4, c5, c6, c7, c8, c9] ∧ SmO a ∧ (js.drop i).foldl (lossJ ss ts) a = z
theorem l3_loss_of_ok {Z : CT} {ss : List So} {ks : D} {k : Ki} {c4 c5 c6 c7 c8 c9 : Cell} {a : Option Th} {E : EndsD} (hs : SoB ss) (hk : KiV ss k) (ha : SmO a)
    (hn : ∀ c4 c5 c6 c7 c8 c9, SmO (lossK ss a k) → E.nx [.dat (bookI Z (sosD ss) ks), .dat (thO (lossK ss a k)), .dat (stD k.1), .dat (.tup (k.2.map joD)), c4, c5, c6, c7, c8, c9]) :
    l3_loss_of K Z E [.dat (bookI Z (sosD ss) ks), .dat (thO a), .dat (stD k.1), .dat (.tup (k.2.map joD)), c4, c5, c6, c7, c8, c9] := by
  unfold l3_loss_of wFor
  simp only [gIsB, gNotB, D.adr.injEq, Cont.pool.injEq, ixN31, ne_eq, List.map_cons, List.map_nil, wPoolOpen, wPoolClose, wPop0, wPopTo, wListOwn, wRemove, wRaise0, wRaise1, wAugOwn, wEnumL, wTru, wSlA, gCatA, gLtT, gLeT, wFrz, wChain3, wAttr, wMkF, wEnumT, wRevT, wDict0, wDict1, numD3, Nat.reduceAdd, atI0, atI1, atI2, atI3, atI4, ixN51, ixN52, ixN53, List.length_map, wNever, scal, V.int.injEq, V.str.injEq, V.bl.injEq, wSq, wNext, wBreak, wCont, wDrop, wRet, wRetN, wIfS, wAsg, wPar, wLstOwn, wAppend, wSetOwn, wIxOwn, wPeek, wRetOwn, wRetFr, wFor, wB, wNot, wAnd, wOr, wAndV, wOrV, wNotV, wIf, wChain, wNil, wCons, wCB, wTup, wLst, wNoPart, wPart, wSlT, wSlL, wSeq, wRng1, wRng2, wZip, wName, wNilT, wConsT, wTupT, wYes, wNeg, wVar, wC, wOp, wcNil, wcCons, wcOwn, wCall, wCallOwn, slots, cellsOf, OwnArgs, putBack, g2I, g2IC, gLen, gAbs, gGcd, gInt1, gTupleOf, gListOf, gIx, gCatT, gCat, gEq, gNe, gIsN, gNotN, scD, seqD_t, seqD_l, seqD_f, isNonD, List.nodup_cons, List.mem_cons, List.not_mem_nil, or_false, not_false_eq_true, Nat.reduceEqDiff, L3.Keeps, ends, wipeD, List.replicate, List.cons_append, List.nil_append, List.append_nil, List.getElem?_cons_zero, List.getElem?_cons_succ, List.set_cons_zero, List.set_cons_succ, List.getD_cons_zero, List.getD_cons_succ, List.length_cons, List.length_nil, List.nodup_nil, Option.some.injEq, Cell.dat.injEq, Cell.own.injEq, Cont.lst.injEq, D.bl.injEq, D.int.injEq, D.str.injEq, D.tup.injEq, D.lst.injEq, Arg.d.injEq, List.cons.injEq, exists_and_left, exists_and_right, exists_eq_left', exists_eq_left, exists_eq_right, exists_eq_right', exists_eq, exists_eq', and_true, true_and, and_assoc, and_self, exists_const, reduceCtorEq]
  refine ⟨InvL3 (.dat (bookI Z (sosD ss) ks)) (.dat (stD k.1)) ss k.1 k.2 (lossK ss a k), ⟨a, _, _, _, _, _, _, rfl, ha, rfl⟩, ?_, ?_⟩
  · rintro j d τ2 hd ⟨a', c4, c5, c6, c7, c8, c9, rfl, ha', hf⟩
    rw [List.getElem?_map] at hd
    obtain ⟨jo, ej, rfl⟩ := Option.map_eq_some_iff.mp hd
    have hi := (List.getElem?_eq_some_iff.mp ej).1
    have pe : k.2[j] = jo := Option.some.inj ((List.getElem?_eq_getElem hi).symm.trans ej)
    have dr : k.2.drop j = jo :: k.2.drop (j + 1) := by rw [List.drop_eq_getElem_cons hi, pe]
    rw [dr] at hf
    simp only [joD, wTupT, wConsT, gIsB, gNotB, D.adr.injEq, Cont.pool.injEq, ixN31, ne_eq, List.map_cons, List.map_nil, wPoolOpen, wPoolClose, wPop0, wPopTo, wListOwn, wRemove, wRaise0, wRaise1, wAugOwn, wEnumL, wTru, wSlA, gCatA, gLtT, gLeT, wFrz, wChain3, wAttr, wMkF, wEnumT, wRevT, wDict0, wDict1, numD3, Nat.reduceAdd, atI0, atI1, atI2, atI3, atI4, ixN51, ixN52, ixN53, List.length_map, wNever, scal, V.int.injEq, V.str.injEq, V.bl.injEq, wSq, wNext, wBreak, wCont, wDrop, wRet, wRetN, wIfS, wAsg, wPar, wLstOwn, wAppend, wSetOwn, wIxOwn, wPeek, wRetOwn, wRetFr, wFor, wB, wNot, wAnd, wOr, wAndV, wOrV, wNotV, wIf, wChain, wNil, wCons, wCB, wTup, wLst, wNoPart, wPart, wSlT, wSlL, wSeq, wRng1, wRng2, wZip, wName, wNilT, wConsT, wTupT, wYes, wNeg, wVar, wC, wOp, wcNil, wcCons, wcOwn, wCall, wCallOwn, slots, cellsOf, OwnArgs, putBack, g2I, g2IC, gLen, gAbs, gGcd, gInt1, gTupleOf, gListOf, gIx, gCatT, gCat, gEq, gNe, gIsN, gNotN, scD, seqD_t, seqD_l, seqD_f, isNonD, List.nodup_cons, List.mem_cons, List.not_mem_nil, or_false, not_false_eq_true, Nat.reduceEqDiff, L3.Keeps, ends, wipeD, List.replicate, List.cons_append, List.nil_append, List.append_nil, List.getElem?_cons_zero, List.getElem?_cons_succ, List.set_cons_zero, List.set_cons_succ, List.getD_cons_zero, List.getD_cons_succ, List.length_cons, List.length_nil, List.nodup_nil, Option.some.injEq, Cell.dat.injEq, Cell.own.injEq, Cont.lst.injEq, D.bl.injEq, D.int.injEq, D.str.injEq, D.tup.injEq, D.lst.injEq, Arg.d.injEq, List.cons.injEq, exists_and_left, exists_and_right, exists_eq_left', exists_eq_left, exists_eq_right, exists_eq_right', exists_eq, exists_eq', and_true, true_and, and_assoc, and_self, exists_const, reduceCtorEq]
    refine l1_loss_of_ok hs hk.1 (hk.2.2 jo (List.mem_of_getElem? ej)) ha' fun c6 c7 c8 c9 hm => ?_
    exact ⟨_, _, _, _, _, _, _, rfl, hm, hf⟩
  · rintro τ2 ⟨a', c4, c5, c6, c7, c8, c9, rfl, ha', hf⟩
    rw [List.drop_length] at hf
    have hf : a' = lossK ss a k := hf
    rw [hf] at ha'
    rw [hf]
    exact hn _ _ _ _ _ _ ha'
def InvL5 (c0 : Cell) (ss : List So) (ks : List Ki) (z : Option Th) (i : Nat) (τ : List Cell) : Prop := ∃ (a : Option Th) (c2 c3 c4 c5 c6 c7 c8 c9 : Cell), τ = [c0, .dat (thO a), c2, c3, c4, c5, c6, c7, c8, c9] ∧ SmO a ∧ (ks.drop i).foldl (lossK ss) a = z
theorem pure_loss_of {Z : CT} : PureD 1 9 (fs_loss_of K Z) (w_loss_of K Z) := by
  rintro cs q e - ⟨ss, ks, rfl, hb, hq⟩
  simp only [w_loss_of, gIsB, gNotB, D.adr.injEq, Cont.pool.injEq, ixN31, ne_eq, List.map_cons, List.map_nil, wPoolOpen, wPoolClose, wPop0, wPopTo, wListOwn, wRemove, wRaise0, wRaise1, wAugOwn, wEnumL, wTru, wSlA, gCatA, gLtT, gLeT, wFrz, wChain3, wAttr, wMkF, wEnumT, wRevT, wDict0, wDict1, numD3, Nat.reduceAdd, atI0, atI1, atI2, atI3, atI4, ixN51, ixN52, ixN53, List.length_map, wNever, scal, V.int.injEq, V.str.injEq, V.bl.injEq, wSq, wNext, wBreak, wCont, wDrop, wRet, wRetN, wIfS, wAsg, wPar, wLstOwn, wAppend, wSetOwn, wIxOwn, wPeek, wRetOwn, wRetFr, wFor, wB, wNot, wAnd, wOr, wAndV, wOrV, wNotV, wIf, wChain, wNil, wCons, wCB, wTup, wLst, wNoPart, wPart, wSlT, wSlL, wSeq, wRng1, wRng2, wZip, wName, wNilT, wConsT, wTupT, wYes, wNeg, wVar, wC, wOp, wcNil, wcCons, wcOwn, wCall, wCallOwn, slots, cellsOf, OwnArgs, putBack, g2I, g2IC, gLen, gAbs, gGcd, gInt1, gTupleOf, gListOf, gIx, gCatT, gCat, gEq, gNe, gIsN, gNotN, scD, seqD_t, seqD_l, seqD_f, isNonD, List.nodup_cons, List.mem_cons, List.not_mem_nil, or_false, not_false_eq_true, Nat.reduceEqDiff, L3.Keeps, ends, wipeD, List.replicate, List.cons_append, List.nil_append, List.append_nil, List.getElem?_cons_zero, List.getElem?_cons_succ, List.set_cons_zero, List.set_cons_succ, List.getD_cons_zero, List.getD_cons_succ, List.length_cons, List.length_nil, List.nodup_nil, Option.some.injEq, Cell.dat.injEq, Cell.own.injEq, Cont.lst.injEq, D.bl.injEq, D.int.injEq, D.str.injEq, D.tup.injEq, D.lst.injEq, Arg.d.injEq, List.cons.injEq, exists_and_left, exists_and_right, exists_eq_left', exists_eq_left, exists_eq_right, exists_eq_right', exists_eq, exists_eq', and_true, true_and, and_assoc, and_self, exists_const, reduceCtorEq]
  unfold l5_loss_of wFor
  simp only [gIsB, gNotB, D.adr.injEq, Cont.pool.injEq, ixN31, ne_eq, List.map_cons, List.map_nil, wPoolOpen, wPoolClose, wPop0, wPopTo, wListOwn, wRemove, wRaise0, wRaise1, wAugOwn, wEnumL, wTru, wSlA, gCatA, gLtT, gLeT, wFrz, wChain3, wAttr, wMkF, wEnumT, wRevT, wDict0, wDict1, numD3, Nat.reduceAdd, atI0, atI1, atI2, atI3, atI4, ixN51, ixN52, ixN53, List.length_map, wNever, scal, V.int.injEq, V.str.injEq, V.bl.injEq, wSq, wNext, wBreak, wCont, wDrop, wRet, wRetN, wIfS, wAsg, wPar, wLstOwn, wAppend, wSetOwn, wIxOwn, wPeek, wRetOwn, wRetFr, wFor, wB, wNot, wAnd, wOr, wAndV, wOrV, wNotV, wIf, wChain, wNil, wCons, wCB, wTup, wLst, wNoPart, wPart, wSlT, wSlL, wSeq, wRng1, wRng2, wZip, wName, wNilT, wConsT, wTupT, wYes, wNeg, wVar, wC, wOp, wcNil, wcCons, wcOwn, wCall, wCallOwn, slots, cellsOf, OwnArgs, putBack, g2I, g2IC, gLen, gAbs, gGcd, gInt1, gTupleOf, gListOf, gIx, gCatT, gCat, gEq, gNe, gIsN, gNotN, scD, seqD_t, seqD_l, seqD_f, isNonD, List.nodup_cons, List.mem_cons, List.not_mem_nil, or_false, not_false_eq_true, Nat.reduceEqDiff, L3.Keeps, ends, wipeD, List.replicate, List.cons_append, List.nil_append, List.append_nil, List.getElem?_cons_zero, List.getElem?_cons_succ, List.set_cons_zero, List.set_cons_succ, List.getD_cons_zero, List.getD_cons_succ, List.length_cons, List.length_nil, List.nodup_nil, Option.some.injEq, Cell.dat.injEq, Cell.own.injEq, Cont.lst.injEq, D.bl.injEq, D.int.injEq, D.str.injEq, D.tup.injEq, D.lst.injEq, Arg.d.injEq, List.cons.injEq, exists_and_left, exists_and_right, exists_eq_left', exists_eq_left, exists_eq_right, exists_eq_right', exists_eq, exists_eq', and_true, true_and, and_assoc, and_self, exists_const, reduceCtorEq]
  refine ⟨_, rfl, _, rfl, _, rfl, InvL5 (.dat (bookI Z (sosD ss) (kisD ks))) ss ks (lossB ss ks), ⟨none, _, _, _, _, _, _, _, _, rfl, fun t z => (nomatch z), rfl⟩, ?_, ?_⟩
  · rintro j d τ2 hd ⟨a', c2, c3, c4, c5, c6, c7, c8, c9, rfl, ha', hf⟩
    rw [List.getElem?_map] at hd
    obtain ⟨k, ek, rfl⟩ := Option.map_eq_some_iff.mp hd
    have hi := (List.getElem?_eq_some_iff.mp ek).1
    have pe : ks[j] = k := Option.some.inj ((List.getElem?_eq_getElem hi).symm.trans ek)
    have dr : ks.drop j = k :: ks.drop (j + 1) := by rw [List.drop_eq_getElem_cons hi, pe]
    rw [dr] at hf
    simp only [kiD, wTupT, wConsT, gIsB, gNotB, D.adr.injEq, Cont.pool.injEq, ixN31, ne_eq, List.map_cons, List.map_nil, wPoolOpen, wPoolClose, wPop0, wPopTo, wListOwn, wRemove, wRaise0, wRaise1, wAugOwn, wEnumL, wTru, wSlA, gCatA, gLtT, gLeT, wFrz, wChain3, wAttr, wMkF, wEnumT, wRevT, wDict0, wDict1, numD3, Nat.reduceAdd, atI0, atI1, atI2, atI3, atI4, ixN51, ixN52, ixN53, List.length_map, wNever, scal, V.int.injEq, V.str.injEq, V.bl.injEq, wSq, wNext, wBreak, wCont, wDrop, wRet, wRetN, wIfS, wAsg, wPar, wLstOwn, wAppend, wSetOwn, wIxOwn, wPeek, wRetOwn, wRetFr, wFor, wB, wNot, wAnd, wOr, wAndV, wOrV, wNotV, wIf, wChain, wNil, wCons, wCB, wTup, wLst, wNoPart, wPart, wSlT, wSlL, wSeq, wRng1, wRng2, wZip, wName, wNilT, wConsT, wTupT, wYes, wNeg, wVar, wC, wOp, wcNil, wcCons, wcOwn, wCall, wCallOwn, slots, cellsOf, OwnArgs, putBack, g2I, g2IC, gLen, gAbs, gGcd, gInt1, gTupleOf, gListOf, gIx, gCatT, gCat, gEq, gNe, gIsN, gNotN, scD, seqD_t, seqD_l, seqD_f, isNonD, List.nodup_cons, List.mem_cons, List.not_mem_nil, or_false, not_false_eq_true, Nat.reduceEqDiff, L3.Keeps, ends, wipeD, List.replicate, List.cons_append, List.nil_append, List.append_nil, List.getElem?_cons_zero, List.getElem?_cons_succ, List.set_cons_zero, List.set_cons_succ, List.getD_cons_zero, List.getD_cons_succ, List.length_cons, List.length_nil, List.nodup_nil, Option.some.injEq, Cell.dat.injEq, Cell.own.injEq, Cont.lst.injEq, D.bl.injEq, D.int.injEq, D.str.injEq, D.tup.injEq, D.lst.injEq, Arg.d.injEq, List.cons.injEq, exists_and_left, exists_and_right, exists_eq_left', exists_eq_left, exists_eq_right, exists_eq_right', exists_eq, exists_eq', and_true, true_and, and_assoc, and_self, exists_const, reduceCtorEq]
    unfold b5_loss_of
    refine l3_loss_of_ok hb.s (hb.k k (List.mem_of_getElem? ek)) ha' fun c4 c5 c6 c7 c8 c9 hm => ?_
    exact ⟨_, _, _, _, _, _, _, _, _, rfl, hm, hf⟩
  · rintro τ2 ⟨a', c2, c3, c4, c5, c6, c7, c8, c9, rfl, ha', hf⟩
    rw [List.length_map, List.drop_length] at hf
    have hf : a' = lossB ss ks := hf
    rw [hf]
    simp only [gIsB, gNotB, D.adr.injEq, Cont.pool.injEq, ixN31, ne_eq, List.map_cons, List.map_nil, wPoolOpen, wPoolClose, wPop0, wPopTo, wListOwn, wRemove, wRaise0, wRaise1, wAugOwn, wEnumL, wTru, wSlA, gCatA, gLtT, gLeT, wFrz, wChain3, wAttr, wMkF, wEnumT, wRevT, wDict0, wDict1, numD3, Nat.reduceAdd, atI0, atI1, atI2, atI3, atI4, ixN51, ixN52, ixN53, List.length_map, wNever, scal, V.int.injEq, V.str.injEq, V.bl.injEq, wSq, wNext, wBreak, wCont, wDrop, wRet, wRetN, wIfS, wAsg, wPar, wLstOwn, wAppend, wSetOwn, wIxOwn, wPeek, wRetOwn, wRetFr, wFor, wB, wNot, wAnd, wOr, wAndV, wOrV, wNotV, wIf, wChain, wNil, wCons, wCB, wTup, wLst, wNoPart, wPart, wSlT, wSlL, wSeq, wRng1, wRng2, wZip, wName, wNilT, wConsT, wTupT, wYes, wNeg, wVar, wC, wOp, wcNil, wcCons, wcOwn, wCall, wCallOwn, slots, cellsOf, OwnArgs, putBack, g2I, g2IC, gLen, gAbs, gGcd, gInt1, gTupleOf, gListOf, gIx, gCatT, gCat, gEq, gNe, gIsN, gNotN, scD, seqD_t, seqD_l, seqD_f, isNonD, List.nodup_cons, List.mem_cons, List.not_mem_nil, or_false, not_false_eq_true, Nat.reduceEqDiff, L3.Keeps, ends, wipeD, List.replicate, List.cons_append, List.nil_append, List.append_nil, List.getElem?_cons_zero, List.getElem?_cons_succ, List.set_cons_zero, List.set_cons_succ, List.getD_cons_zero, List.getD_cons_succ, List.length_cons, List.length_nil, List.nodup_nil, Option.some.injEq, Cell.dat.injEq, Cell.own.injEq, Cont.lst.injEq, D.bl.injEq, D.int.injEq, D.str.injEq, D.tup.injEq, D.lst.injEq, Arg.d.injEq, List.cons.injEq, exists_and_left, exists_and_right, exists_eq_left', exists_eq_left, exists_eq_right, exists_eq_right', exists_eq, exists_eq', and_true, true_and, and_assoc, and_self, exists_const, reduceCtorEq]
    exact hq
theorem ok_loss_of (T : Txt K mg) : FnOk P w K mg base (L2.CX P w) 4 T.f_loss_of T.fd_loss_of ["book"] (spOf K 1 (fs_loss_of K T.Z)) := by
  refine def_ok T.F_loss_of sc_loss_of (wb := w_loss_of K T.Z) pure_loss_of ?_
  intro cdv A outer s H E hr tk
  exact ⟨_, (pss_cons (ps_set (i := 1) sc_loss_of.nd rfl (by first | exact Or.inl rfl | exact Or.inr rfl) pe_non)
      (pss_cons (ps_for (passes_of rfl) rfl (pi_seq (pe_fld (pv 0) rfl)) (pg_tup (by rfl) (pgs_cons (pg_name (i := 2) sc_loss_of.nd rfl (by first | exact Or.inl rfl | exact Or.inr rfl)) (pgs_cons (pg_name (i := 3) sc_loss_of.nd rfl (by first | exact Or.inl rfl | exact Or.inr rfl)) pgs_nil)))
        (pss_one (ps_for (passes_of rfl) rfl (pi_seq (pv 3)) (pg_tup (by rfl) (pgs_cons (pg_name (i := 4) sc_loss_of.nd rfl (by first | exact Or.inl rfl | exact Or.inr rfl)) (pgs_cons (pg_name (i := 5) sc_loss_of.nd rfl (by first | exact Or.inl rfl | exact Or.inr rfl)) pgs_nil)))
        (pss_cons (ps_set (i := 6) sc_loss_of.nd rfl (by first | exact Or.inl rfl | exact Or.inr rfl) (pe_callS (ok_room_of T) (hr.mono (by decide)) rfl T.g_room_of T.k_room_of T.b_room_of (fun σ => passAt tk σ) (pa_cons (pe_fld (pv 0) rfl) (pa_cons (pv 4) (pa_cons (pv 5) pa_nil)))))
      (pss_one (ps_for (passes_of rfl) rfl (pi_seq (pe_callS (ok_onsets T) (hr.mono (by decide)) rfl T.g_onsets T.k_onsets T.b_onsets (fun σ => passAt tk σ) (pa_cons (pv 2) (pa_cons (pe_callS (ok_grains_of T) (hr.mono (by decide)) rfl T.g_grains_of T.k_grains_of T.b_grains_of (fun σ => passAt tk σ) (pa_cons (pe_fld (pv 0) rfl) (pa_cons (pv 4) (pa_cons (pv 5) pa_nil)))) pa_nil)))) (pg_tup (by rfl) (pgs_cons (pg_name (i := 7) sc_loss_of.nd rfl (by first | exact Or.inl rfl | exact Or.inr rfl)) (pgs_cons (pg_name (i := 8) sc_loss_of.nd rfl (by first | exact Or.inl rfl | exact Or.inr rfl)) pgs_nil)))
        (pss_cons (ps_set (i := 9) sc_loss_of.nd rfl (by first | exact Or.inl rfl | exact Or.inr rfl) (pe_callS (ok_minus T) (hr.mono (by decide)) rfl T.g_minus T.k_minus T.b_minus (fun σ => passAt tk σ) (pa_cons (pe_callS (ok_times T) (hr.mono (by decide)) rfl T.g_times T.k_times T.b_times (fun σ => passAt tk σ) (pa_cons pe_int (pa_cons (pv 7) pa_nil))) (pa_cons (pe_callS (ok_times T) (hr.mono (by decide)) rfl T.g_times T.k_times T.b_times (fun σ => passAt tk σ) (pa_cons (pv 8) (pa_cons (pv 6) pa_nil))) pa_nil))))
      (pss_one (ps_if (PW.pt (pw_or (pt_cmpR op_isN (pv 1) pe_non (nomark _)) (pw_or1 (pt_val (pe_callS (ok_at_most T) (hr.mono (by decide)) rfl T.g_at_most T.k_at_most T.b_at_most (fun σ => passAt tk σ) (pa_cons (pv 9) (pa_cons (pv 1) pa_nil)))))))
        (pss_one (ps_set (i := 1) sc_loss_of.nd rfl (by first | exact Or.inl rfl | exact Or.inr rfl) (pv 9)))
        pss_nil)))))))))
      (pss_one (ps_ret (pv 1))))),
    (ds_seq (ds_asg de_non (dg_name 1))
      (ds_seq (ds_for (wI := (wSeq (wAttr T.Z.C_Book "kinds" (wVar 0)))) (wg := (wTupT 2 (wConsT (wName 2) (wConsT (wName 3) wNilT)))) (wb := (l3_loss_of K T.Z)) (di_seq (de_fld T.it_Book.cl T.na_Book_kinds (de_var 0))) (dg_tup (n := 2) (dgs_cons (dg_name 2) (dgs_cons (dg_name 3) dgs_nil))) (ds_for (wI := (wSeq (wVar 3))) (wg := (wTupT 2 (wConsT (wName 4) (wConsT (wName 5) wNilT)))) (wb := (wSq (wAsg (wCall 3 (fs_room_of K) (wcCons (wAttr T.Z.C_Book "sorts" (wVar 0)) (wcCons (wVar 4) (wcCons (wVar 5) wcNil)))) (wName 6))
  (l1_loss_of K T.Z))) (di_seq (de_var 3)) (dg_tup (n := 2) (dgs_cons (dg_name 4) (dgs_cons (dg_name 5) dgs_nil))) (ds_seq (ds_asg (de_call (n := 3) (fs := fs_room_of K) (dac_cons (de_fld T.it_Book.cl T.na_Book_sorts (de_var 0)) (dac_cons (de_var 4) (dac_cons (de_var 5) dac_nil)))) (dg_name 6))
      (ds_for (wI := (wSeq (wCall 2 (fs_onsets K) (wcCons (wVar 2) (wcCons (wCall 3 (fs_grains_of K) (wcCons (wAttr T.Z.C_Book "sorts" (wVar 0)) (wcCons (wVar 4) (wcCons (wVar 5) wcNil)))) wcNil))))) (wg := (wTupT 2 (wConsT (wName 7) (wConsT (wName 8) wNilT)))) (wb := (wSq (wAsg (wCall 2 (fs_minus K) (wcCons (wCall 2 (fs_times K) (wcCons (wC (.int 2)) (wcCons (wVar 7) wcNil))) (wcCons (wCall 2 (fs_times K) (wcCons (wVar 8) (wcCons (wVar 6) wcNil))) wcNil))) (wName 9))
  (wIfS (wOr (wB (wOp gIsN (wVar 1) (wC .non))) (wB (wCall 2 (fs_at_most K) (wcCons (wVar 9) (wcCons (wVar 1) wcNil))))) (wAsg (wVar 9) (wName 1)) wNext))) (di_seq (de_call (n := 2) (fs := fs_onsets K) (dac_cons (de_var 2) (dac_cons (de_call (n := 3) (fs := fs_grains_of K) (dac_cons (de_fld T.it_Book.cl T.na_Book_sorts (de_var 0)) (dac_cons (de_var 4) (dac_cons (de_var 5) dac_nil)))) dac_nil)))) (dg_tup (n := 2) (dgs_cons (dg_name 7) (dgs_cons (dg_name 8) dgs_nil))) (ds_seq (ds_asg (de_call (n := 2) (fs := fs_minus K) (dac_cons (de_call (n := 2) (fs := fs_times K) (dac_cons de_int (dac_cons (de_var 7) dac_nil))) (dac_cons (de_call (n := 2) (fs := fs_times K) (dac_cons (de_var 8) (dac_cons (de_var 6) dac_nil))) dac_nil))) (dg_name 9))
      (ds_if (dt_or (dt_B (de_op o_isN (de_var 1) de_non)) (dt_B (de_call (n := 2) (fs := fs_at_most K) (dac_cons (de_var 9) (dac_cons (de_var 1) dac_nil))))) (ds_asg (de_var 9) (dg_name 1)) ds_nil))))))
      (ds_ret (de_var 1))))⟩
abbrev s_loss : Stmt := topS 53
theorem sc_loss : FnScope ["book"] ["book"] (defScope s_loss) := ⟨rfl, rfl, rfl, by decide +kernel, rfl, by decide +kernel, by decide +kernel⟩
def w_loss (K : PySem.W.Frag) (Z : CT) : SW := (wSq (wIfS (wNot (wB (wCall 1 (fs_calm K Z) (wcCons (wVar 0) wcNil)))) (wRaise0 Z.C_NotCalm) wNext)
  (wRet (wCall 1 (fs_loss_of K Z) (wcCons (wVar 0) wcNil))))
def fs_loss (K : PySem.W.Frag) (Z : CT) : FS := fun cs q e => ∃ (ss : List So) (ks : List Ki), cs = [.dat (bookI Z (sosD ss) (kisD ks))] ∧ BkV ss ks ∧ (calmB ss ks = true → q (thO (lossB ss ks)) cs) ∧ (calmB ss ks = false → e ⟨Z.C_NotCalm, []⟩ cs)
theorem pure_loss {Z : CT} : PureD 1 0 (fs_loss K Z) (w_loss K Z) := by
  rintro cs q e - ⟨ss, ks, rfl, hb, hq, he⟩
  simp only [w_loss, fs_calm, gIsB, gNotB, D.adr.injEq, Cont.pool.injEq, ixN31, ne_eq, List.map_cons, List.map_nil, wPoolOpen, wPoolClose, wPop0, wPopTo, wListOwn, wRemove, wRaise0, wRaise1, wAugOwn, wEnumL, wTru, wSlA, gCatA, gLtT, gLeT, wFrz, wChain3, wAttr, wMkF, wEnumT, wRevT, wDict0, wDict1, numD3, Nat.reduceAdd, atI0, atI1, atI2, atI3, atI4, ixN51, ixN52, ixN53, List.length_map, wNever, scal, V.int.injEq, V.str.injEq, V.bl.injEq, wSq, wNext, wBreak, wCont, wDrop, wRet, wRetN, wIfS, wAsg, wPar, wLstOwn, wAppend, wSetOwn, wIxOwn, wPeek, wRetOwn, wRetFr, wFor, wB, wNot, wAnd, wOr, wAndV, wOrV, wNotV, wIf, wChain, wNil, wCons, wCB, wTup, wLst, wNoPart, wPart, wSlT, wSlL, wSeq, wRng1, wRng2, wZip, wName, wNilT, wConsT, wTupT, wYes, wNeg, wVar, wC, wOp, wcNil, wcCons, wcOwn, wCall, wCallOwn, slots, cellsOf, OwnArgs, putBack, g2I, g2IC, gLen, gAbs, gGcd, gInt1, gTupleOf, gListOf, gIx, gCatT, gCat, gEq, gNe, gIsN, gNotN, scD, seqD_t, seqD_l, seqD_f, isNonD, List.nodup_cons, List.mem_cons, List.not_mem_nil, or_false, not_false_eq_true, Nat.reduceEqDiff, L3.Keeps, ends, wipeD, List.replicate, List.cons_append, List.nil_append, List.append_nil, List.getElem?_cons_zero, List.getElem?_cons_succ, List.set_cons_zero, List.set_cons_succ, List.getD_cons_zero, List.getD_cons_succ, List.length_cons, List.length_nil, List.nodup_nil, Option.some.injEq, Cell.dat.injEq, Cell.own.injEq, Cont.lst.injEq, D.bl.injEq, D.int.injEq, D.str.injEq, D.tup.injEq, D.lst.injEq, Arg.d.injEq, List.cons.injEq, exists_and_left, exists_and_right, exists_eq_left', exists_eq_left, exists_eq_right, exists_eq_right', exists_eq, exists_eq', and_true, true_and, and_assoc, and_self, exists_const, reduceCtorEq]
  refine ⟨ss, ks, rfl, hb, fun z => ?_, fun z => ?_⟩
  · exact he (by simpa using z)
  · simp only [fs_loss_of, gIsB, gNotB, D.adr.injEq, Cont.pool.injEq, ixN31, ne_eq, List.map_cons, List.map_nil, wPoolOpen, wPoolClose, wPop0, wPopTo, wListOwn, wRemove, wRaise0, wRaise1, wAugOwn, wEnumL, wTru, wSlA, gCatA, gLtT, gLeT, wFrz, wChain3, wAttr, wMkF, wEnumT, wRevT, wDict0, wDict1, numD3, Nat.reduceAdd, atI0, atI1, atI2, atI3, atI4, ixN51, ixN52, ixN53, List.length_map, wNever, scal, V.int.injEq, V.str.injEq, V.bl.injEq, wSq, wNext, wBreak, wCont, wDrop, wRet, wRetN, wIfS, wAsg, wPar, wLstOwn, wAppend, wSetOwn, wIxOwn, wPeek, wRetOwn, wRetFr, wFor, wB, wNot, wAnd, wOr, wAndV, wOrV, wNotV, wIf, wChain, wNil, wCons, wCB, wTup, wLst, wNoPart, wPart, wSlT, wSlL, wSeq, wRng1, wRng2, wZip, wName, wNilT, wConsT, wTupT, wYes, wNeg, wVar, wC, wOp, wcNil, wcCons, wcOwn, wCall, wCallOwn, slots, cellsOf, OwnArgs, putBack, g2I, g2IC, gLen, gAbs, gGcd, gInt1, gTupleOf, gListOf, gIx, gCatT, gCat, gEq, gNe, gIsN, gNotN, scD, seqD_t, seqD_l, seqD_f, isNonD, List.nodup_cons, List.mem_cons, List.not_mem_nil, or_false, not_false_eq_true, Nat.reduceEqDiff, L3.Keeps, ends, wipeD, List.replicate, List.cons_append, List.nil_append, List.append_nil, List.getElem?_cons_zero, List.getElem?_cons_succ, List.set_cons_zero, List.set_cons_succ, List.getD_cons_zero, List.getD_cons_succ, List.length_cons, List.length_nil, List.nodup_nil, Option.some.injEq, Cell.dat.injEq, Cell.own.injEq, Cont.lst.injEq, D.bl.injEq, D.int.injEq, D.str.injEq, D.tup.injEq, D.lst.injEq, Arg.d.injEq, List.cons.injEq, exists_and_left, exists_and_right, exists_eq_left', exists_eq_left, exists_eq_right, exists_eq_right', exists_eq, exists_eq', and_true, true_and, and_assoc, and_self, exists_const, reduceCtorEq]
    exact ⟨ss, ks, rfl, hb, hq (by simpa using z)⟩
theorem ok_loss (T : Txt K mg) : FnOk P w K mg base (L2.CX P w) 7 T.f_loss T.fd_loss ["book"] (spOf K 1 (fs_loss K T.Z)) := by
  refine def_ok T.F_loss sc_loss (wb := w_loss K T.Z) pure_loss ?_
  intro cdv A outer s H E hr tk
  exact ⟨_, (pss_cons (ps_if (pt_not (pt_val (pe_callS (ok_calm T) (hr.mono (by decide)) rfl T.g_calm T.k_calm T.b_calm (fun σ => passAt tk σ) (pa_cons (pv 0) pa_nil))))
        (pss_one (ps_raise rfl tk (pmk0 T.x_NotCalm (hr.mono (by decide : 0 ≤ _)))))
        pss_nil)
      (pss_one (ps_ret (pe_callS (ok_loss_of T) (hr.mono (by decide)) rfl T.g_loss_of T.k_loss_of T.b_loss_of (fun σ => passAt tk σ) (pa_cons (pv 0) pa_nil))))),
    (ds_seq (ds_if (dt_not (dt_B (de_call (n := 1) (fs := fs_calm K T.Z) (dac_cons (de_var 0) dac_nil)))) (ds_raise0 (C := T.Z.C_NotCalm)) ds_nil)
      (ds_ret (de_call (n := 1) (fs := fs_loss_of K T.Z) (dac_cons (de_var 0) dac_nil))))⟩
abbrev s__law_pool : Stmt := topS 55
theorem sc__law_pool : FnScope ["script", "seed", "cell"] ["script"] (defScope s__law_pool) := ⟨rfl, rfl, rfl, by decide +kernel, rfl, by decide +kernel, by decide +kernel⟩
def l1__law_pool (K : PySem.W.Frag) : SW := wFor (wSeq (wSlL (wVar 0) wNoPart (wPart (wC (.int 63))))) (wName 2) (wAsg (wOp gModI (wCB gInt1 (wCons (wOp gAddI (wOp gAddI (wOp gMulA (wVar 1) (wC (.int 48271))) (wOp gModI (wCB gInt1 (wCons (wVar 2) wNil)) (wC (.int 2147483629)))) (wC (.int 11))) wNil)) (wC (.int 2147483647))) (wName 1))
def w__law_pool (K : PySem.W.Frag) : SW := (wSq (wAsg (wOp gAddI (wCB gLen (wCons (wVar 0) wNil)) (wC (.int 1))) (wName 1))
  (wSq (l1__law_pool K)
  (wRetPool (wVar 1) (wC (.int 0)) (wSeq (wSlL (wVar 0) wNoPart (wPart (wC (.int 63))))) (wName 2) (wB (wOp gGeI (wCB gAbs (wCons (wVar 2) wNil)) (wOp gPowI (wC (.int 10)) (wC (.int 18))))) (wCB gAbs (wCons (wVar 2) wNil)) [2])))
/-- where the draws stand -/
def PoolC (c : Cont) : Prop := ∃ a b q ns, c = .pool a b q ns
def fs__law_pool (K : PySem.W.Frag) : FSF := fun cs q _ => ∃ ns : List Int, cs = [.dat (.fl (ns.map D.int))] ∧ ns.length ≤ 1000 ∧ ∀ c : Cont, PoolC c → q c cs
theorem cut_int {ns : List Int} {lo hi : Option Int} {i : Nat} {d : D} (h : (cutDs (ns.map D.int) lo hi)[i]? = some d) : ∃ n, d = .int n := by
  have hm := List.mem_of_getElem? h
  unfold cutDs at hm
  have hm := List.mem_of_mem_drop (List.mem_of_mem_take hm)
  obtain ⟨n, _, rfl⟩ := List.mem_map.mp hm
  exact ⟨n, rfl⟩
theorem cut_len {ns : List Int} {lo hi : Option Int} : (cutDs (ns.map D.int) lo hi).length ≤ ns.length := by
  unfold cutDs
  rw [List.length_take, List.length_drop, List.length_map]
  omega
theorem l1__law_pool_ok {ns : List Int} {f : Int} {c : Cell} {E : EndsD} (hn : ∀ (f : Int) c, E.nx [.dat (.fl (ns.map D.int)), .dat (.int f), c]) : l1__law_pool K E [.dat (.fl (ns.map D.int)), .dat (.int f), c] := by
  unfold l1__law_pool wFor
  simp only [gIsB, gNotB, D.adr.injEq, Cont.pool.injEq, ixN31, ne_eq, List.map_cons, List.map_nil, wPoolOpen, wPoolClose, wPop0, wPopTo, wListOwn, wRemove, wRaise0, wRaise1, wAugOwn, wEnumL, wTru, wSlA, gCatA, gLtT, gLeT, wFrz, wChain3, wAttr, wMkF, wEnumT, wRevT, wDict0, wDict1, numD3, Nat.reduceAdd, atI0, atI1, atI2, atI3, atI4, ixN51, ixN52, ixN53, List.length_map, wNever, scal, V.int.injEq, V.str.injEq, V.bl.injEq, wSq, wNext, wBreak, wCont, wDrop, wRet, wRetN, wIfS, wAsg, wPar, wLstOwn, wAppend, wSetOwn, wIxOwn, wPeek, wRetOwn, wRetFr, wFor, wB, wNot, wAnd, wOr, wAndV, wOrV, wNotV, wIf, wChain, wNil, wCons, wCB, wTup, wLst, wNoPart, wPart, wSlT, wSlL, wSeq, wRng1, wRng2, wZip, wName, wNilT, wConsT, wTupT, wYes, wNeg, wVar, wC, wOp, wcNil, wcCons, wcOwn, wCall, wCallOwn, slots, cellsOf, OwnArgs, putBack, g2I, g2IC, gLen, gAbs, gGcd, gInt1, gTupleOf, gListOf, gIx, gCatT, gCat, gEq, gNe, gIsN, gNotN, scD, seqD_t, seqD_l, seqD_f, isNonD, List.nodup_cons, List.mem_cons, List.not_mem_nil, or_false, not_false_eq_true, Nat.reduceEqDiff, L3.Keeps, ends, wipeD, List.replicate, List.cons_append, List.nil_append, List.append_nil, List.getElem?_cons_zero, List.getElem?_cons_succ, List.set_cons_zero, List.set_cons_succ, List.getD_cons_zero, List.getD_cons_succ, List.length_cons, List.length_nil, List.nodup_nil, Option.some.injEq, Cell.dat.injEq, Cell.own.injEq, Cont.lst.injEq, D.bl.injEq, D.int.injEq, D.str.injEq, D.tup.injEq, D.lst.injEq, Arg.d.injEq, List.cons.injEq, exists_and_left, exists_and_right, exists_eq_left', exists_eq_left, exists_eq_right, exists_eq_right', exists_eq, exists_eq', and_true, true_and, and_assoc, and_self, exists_const, reduceCtorEq]
  refine ⟨ns.map D.int, .inr rfl, fun i τ => ∃ (f : Int) (c : Cell), τ = [.dat (.fl (ns.map D.int)), .dat (.int f), c], ⟨_, _, rfl⟩, ?_, ?_⟩
  · rintro i d τ2 hi ⟨f, c, rfl⟩
    obtain ⟨n, rfl⟩ := cut_int hi
    simp only [gIsB, gNotB, D.adr.injEq, Cont.pool.injEq, ixN31, ne_eq, List.map_cons, List.map_nil, wPoolOpen, wPoolClose, wPop0, wPopTo, wListOwn, wRemove, wRaise0, wRaise1, wAugOwn, wEnumL, wTru, wSlA, gCatA, gLtT, gLeT, wFrz, wChain3, wAttr, wMkF, wEnumT, wRevT, wDict0, wDict1, numD3, Nat.reduceAdd, atI0, atI1, atI2, atI3, atI4, ixN51, ixN52, ixN53, List.length_map, wNever, scal, V.int.injEq, V.str.injEq, V.bl.injEq, wSq, wNext, wBreak, wCont, wDrop, wRet, wRetN, wIfS, wAsg, wPar, wLstOwn, wAppend, wSetOwn, wIxOwn, wPeek, wRetOwn, wRetFr, wFor, wB, wNot, wAnd, wOr, wAndV, wOrV, wNotV, wIf, wChain, wNil, wCons, wCB, wTup, wLst, wNoPart, wPart, wSlT, wSlL, wSeq, wRng1, wRng2, wZip, wName, wNilT, wConsT, wTupT, wYes, wNeg, wVar, wC, wOp, wcNil, wcCons, wcOwn, wCall, wCallOwn, slots, cellsOf, OwnArgs, putBack, g2I, g2IC, gLen, gAbs, gGcd, gInt1, gTupleOf, gListOf, gIx, gCatT, gCat, gEq, gNe, gIsN, gNotN, scD, seqD_t, seqD_l, seqD_f, isNonD, List.nodup_cons, List.mem_cons, List.not_mem_nil, or_false, not_false_eq_true, Nat.reduceEqDiff, L3.Keeps, ends, wipeD, List.replicate, List.cons_append, List.nil_append, List.append_nil, List.getElem?_cons_zero, List.getElem?_cons_succ, List.set_cons_zero, List.set_cons_succ, List.getD_cons_zero, List.getD_cons_succ, List.length_cons, List.length_nil, List.nodup_nil, Option.some.injEq, Cell.dat.injEq, Cell.own.injEq, Cont.lst.injEq, D.bl.injEq, D.int.injEq, D.str.injEq, D.tup.injEq, D.lst.injEq, Arg.d.injEq, List.cons.injEq, exists_and_left, exists_and_right, exists_eq_left', exists_eq_left, exists_eq_right, exists_eq_right', exists_eq, exists_eq', and_true, true_and, and_assoc, and_self, exists_const, reduceCtorEq]
    exact ⟨cmul_r (by decide) (by decide), by decide, by decide⟩
  · rintro τ2 ⟨f, c, rfl⟩
    exact hn f c
theorem pure__law_pool : PureF 1 2 (fs__law_pool K) (w__law_pool K) := by
  rintro cs q e - ⟨ns, rfl, hl, hq⟩
  simp only [w__law_pool, seqD_f, gIsB, gNotB, D.adr.injEq, Cont.pool.injEq, ixN31, ne_eq, List.map_cons, List.map_nil, wPoolOpen, wPoolClose, wPop0, wPopTo, wListOwn, wRemove, wRaise0, wRaise1, wAugOwn, wEnumL, wTru, wSlA, gCatA, gLtT, gLeT, wFrz, wChain3, wAttr, wMkF, wEnumT, wRevT, wDict0, wDict1, numD3, Nat.reduceAdd, atI0, atI1, atI2, atI3, atI4, ixN51, ixN52, ixN53, List.length_map, wNever, scal, V.int.injEq, V.str.injEq, V.bl.injEq, wSq, wNext, wBreak, wCont, wDrop, wRet, wRetN, wIfS, wAsg, wPar, wLstOwn, wAppend, wSetOwn, wIxOwn, wPeek, wRetOwn, wRetFr, wFor, wB, wNot, wAnd, wOr, wAndV, wOrV, wNotV, wIf, wChain, wNil, wCons, wCB, wTup, wLst, wNoPart, wPart, wSlT, wSlL, wSeq, wRng1, wRng2, wZip, wName, wNilT, wConsT, wTupT, wYes, wNeg, wVar, wC, wOp, wcNil, wcCons, wcOwn, wCall, wCallOwn, slots, cellsOf, OwnArgs, putBack, g2I, g2IC, gLen, gAbs, gGcd, gInt1, gTupleOf, gListOf, gIx, gCatT, gCat, gEq, gNe, gIsN, gNotN, scD, seqD_t, seqD_l, seqD_f, isNonD, List.nodup_cons, List.mem_cons, List.not_mem_nil, or_false, not_false_eq_true, Nat.reduceEqDiff, L3.Keeps, ends, wipeD, List.replicate, List.cons_append, List.nil_append, List.append_nil, List.getElem?_cons_zero, List.getElem?_cons_succ, List.set_cons_zero, List.set_cons_succ, List.getD_cons_zero, List.getD_cons_succ, List.length_cons, List.length_nil, List.nodup_nil, Option.some.injEq, Cell.dat.injEq, Cell.own.injEq, Cont.lst.injEq, D.bl.injEq, D.int.injEq, D.str.injEq, D.tup.injEq, D.lst.injEq, Arg.d.injEq, List.cons.injEq, exists_and_left, exists_and_right, exists_eq_left', exists_eq_left, exists_eq_right, exists_eq_right', exists_eq, exists_eq', and_true, true_and, and_assoc, and_self, exists_const, reduceCtorEq]
  refine l1__law_pool_ok fun f c => ?_
  simp only [wRetPool, gIsB, gNotB, D.adr.injEq, Cont.pool.injEq, ixN31, ne_eq, List.map_cons, List.map_nil, wPoolOpen, wPoolClose, wPop0, wPopTo, wListOwn, wRemove, wRaise0, wRaise1, wAugOwn, wEnumL, wTru, wSlA, gCatA, gLtT, gLeT, wFrz, wChain3, wAttr, wMkF, wEnumT, wRevT, wDict0, wDict1, numD3, Nat.reduceAdd, atI0, atI1, atI2, atI3, atI4, ixN51, ixN52, ixN53, List.length_map, wNever, scal, V.int.injEq, V.str.injEq, V.bl.injEq, wSq, wNext, wBreak, wCont, wDrop, wRet, wRetN, wIfS, wAsg, wPar, wLstOwn, wAppend, wSetOwn, wIxOwn, wPeek, wRetOwn, wRetFr, wFor, wB, wNot, wAnd, wOr, wAndV, wOrV, wNotV, wIf, wChain, wNil, wCons, wCB, wTup, wLst, wNoPart, wPart, wSlT, wSlL, wSeq, wRng1, wRng2, wZip, wName, wNilT, wConsT, wTupT, wYes, wNeg, wVar, wC, wOp, wcNil, wcCons, wcOwn, wCall, wCallOwn, slots, cellsOf, OwnArgs, putBack, g2I, g2IC, gLen, gAbs, gGcd, gInt1, gTupleOf, gListOf, gIx, gCatT, gCat, gEq, gNe, gIsN, gNotN, scD, seqD_t, seqD_l, seqD_f, isNonD, List.nodup_cons, List.mem_cons, List.not_mem_nil, or_false, not_false_eq_true, Nat.reduceEqDiff, L3.Keeps, ends, wipeD, List.replicate, List.cons_append, List.nil_append, List.append_nil, List.getElem?_cons_zero, List.getElem?_cons_succ, List.set_cons_zero, List.set_cons_succ, List.getD_cons_zero, List.getD_cons_succ, List.length_cons, List.length_nil, List.nodup_nil, Option.some.injEq, Cell.dat.injEq, Cell.own.injEq, Cont.lst.injEq, D.bl.injEq, D.int.injEq, D.str.injEq, D.tup.injEq, D.lst.injEq, Arg.d.injEq, List.cons.injEq, exists_and_left, exists_and_right, exists_eq_left', exists_eq_left, exists_eq_right, exists_eq_right', exists_eq, exists_eq', and_true, true_and, and_assoc, and_self, exists_const, reduceCtorEq]
  refine ⟨ns.map D.int, .inr rfl, Nat.le_trans cut_len hl, fun i acc τ => (∃ ms : List Int, acc = ms.map D.int) ∧ τ = [.dat (.fl (ns.map D.int)), .dat (.int f), .any], ⟨⟨[], rfl⟩, rfl⟩, ?_, ?_⟩
  · rintro i d acc τ4 hd ⟨⟨ms, rfl⟩, rfl⟩ -
    obtain ⟨n, rfl⟩ := cut_int hd
    simp only [gIsB, gNotB, D.adr.injEq, Cont.pool.injEq, ixN31, ne_eq, List.map_cons, List.map_nil, wPoolOpen, wPoolClose, wPop0, wPopTo, wListOwn, wRemove, wRaise0, wRaise1, wAugOwn, wEnumL, wTru, wSlA, gCatA, gLtT, gLeT, wFrz, wChain3, wAttr, wMkF, wEnumT, wRevT, wDict0, wDict1, numD3, Nat.reduceAdd, atI0, atI1, atI2, atI3, atI4, ixN51, ixN52, ixN53, List.length_map, wNever, scal, V.int.injEq, V.str.injEq, V.bl.injEq, wSq, wNext, wBreak, wCont, wDrop, wRet, wRetN, wIfS, wAsg, wPar, wLstOwn, wAppend, wSetOwn, wIxOwn, wPeek, wRetOwn, wRetFr, wFor, wB, wNot, wAnd, wOr, wAndV, wOrV, wNotV, wIf, wChain, wNil, wCons, wCB, wTup, wLst, wNoPart, wPart, wSlT, wSlL, wSeq, wRng1, wRng2, wZip, wName, wNilT, wConsT, wTupT, wYes, wNeg, wVar, wC, wOp, wcNil, wcCons, wcOwn, wCall, wCallOwn, slots, cellsOf, OwnArgs, putBack, g2I, g2IC, gLen, gAbs, gGcd, gInt1, gTupleOf, gListOf, gIx, gCatT, gCat, gEq, gNe, gIsN, gNotN, scD, seqD_t, seqD_l, seqD_f, isNonD, List.nodup_cons, List.mem_cons, List.not_mem_nil, or_false, not_false_eq_true, Nat.reduceEqDiff, L3.Keeps, ends, wipeD, List.replicate, List.cons_append, List.nil_append, List.append_nil, List.getElem?_cons_zero, List.getElem?_cons_succ, List.set_cons_zero, List.set_cons_succ, List.getD_cons_zero, List.getD_cons_succ, List.length_cons, List.length_nil, List.nodup_nil, Option.some.injEq, Cell.dat.injEq, Cell.own.injEq, Cont.lst.injEq, D.bl.injEq, D.int.injEq, D.str.injEq, D.tup.injEq, D.lst.injEq, Arg.d.injEq, List.cons.injEq, exists_and_left, exists_and_right, exists_eq_left', exists_eq_left, exists_eq_right, exists_eq_right', exists_eq, exists_eq', and_true, true_and, and_assoc, and_self, exists_const, reduceCtorEq]
    refine ⟨⟨by decide, by decide, by decide⟩, fun _ => ⟨ms ++ [if n < 0 then -n else n], ?_⟩, fun _ => ⟨ms, rfl⟩⟩
    rw [List.map_append]
    rfl
  · rintro acc τ4 ⟨⟨ms, rfl⟩, e⟩ -
    refine ⟨ms, rfl, fun p => ?_⟩
    rw [e]
    simp only [gIsB, gNotB, D.adr.injEq, Cont.pool.injEq, ixN31, ne_eq, List.map_cons, List.map_nil, wPoolOpen, wPoolClose, wPop0, wPopTo, wListOwn, wRemove, wRaise0, wRaise1, wAugOwn, wEnumL, wTru, wSlA, gCatA, gLtT, gLeT, wFrz, wChain3, wAttr, wMkF, wEnumT, wRevT, wDict0, wDict1, numD3, Nat.reduceAdd, atI0, atI1, atI2, atI3, atI4, ixN51, ixN52, ixN53, List.length_map, wNever, scal, V.int.injEq, V.str.injEq, V.bl.injEq, wSq, wNext, wBreak, wCont, wDrop, wRet, wRetN, wIfS, wAsg, wPar, wLstOwn, wAppend, wSetOwn, wIxOwn, wPeek, wRetOwn, wRetFr, wFor, wB, wNot, wAnd, wOr, wAndV, wOrV, wNotV, wIf, wChain, wNil, wCons, wCB, wTup, wLst, wNoPart, wPart, wSlT, wSlL, wSeq, wRng1, wRng2, wZip, wName, wNilT, wConsT, wTupT, wYes, wNeg, wVar, wC, wOp, wcNil, wcCons, wcOwn, wCall, wCallOwn, slots, cellsOf, OwnArgs, putBack, g2I, g2IC, gLen, gAbs, gGcd, gInt1, gTupleOf, gListOf, gIx, gCatT, gCat, gEq, gNe, gIsN, gNotN, scD, seqD_t, seqD_l, seqD_f, isNonD, List.nodup_cons, List.mem_cons, List.not_mem_nil, or_false, not_false_eq_true, Nat.reduceEqDiff, L3.Keeps, ends, wipeD, List.replicate, List.cons_append, List.nil_append, List.append_nil, List.getElem?_cons_zero, List.getElem?_cons_succ, List.set_cons_zero, List.set_cons_succ, List.getD_cons_zero, List.getD_cons_succ, List.length_cons, List.length_nil, List.nodup_nil, Option.some.injEq, Cell.dat.injEq, Cell.own.injEq, Cont.lst.injEq, D.bl.injEq, D.int.injEq, D.str.injEq, D.tup.injEq, D.lst.injEq, Arg.d.injEq, List.cons.injEq, exists_and_left, exists_and_right, exists_eq_left', exists_eq_left, exists_eq_right, exists_eq_right', exists_eq, exists_eq', and_true, true_and, and_assoc, and_self, exists_const, reduceCtorEq]
    exact hq _ ⟨_, _, _, _, rfl⟩
theorem ok__law_pool (T : Txt K mg) : FnOk P w K mg base (L2.CX P w) 1 T.f__law_pool T.fd__law_pool ["script"] (spFr K 1 (fs__law_pool K)) := by
  refine def_okFr T.F__law_pool sc__law_pool (wb := w__law_pool K) pure__law_pool ?_
  intro cdv A outer s H E hr tk
  exact ⟨_, (pss_cons (ps_set (i := 1) sc__law_pool.nd rfl (by first | exact Or.inl rfl | exact Or.inr rfl) (pe_op op_add (pe_callB call_len_seq (by rfl) T.z_len (by decide +kernel) (pa_cons (pv 0) pa_nil)) pe_int))
      (pss_cons (ps_for (passes_of rfl) rfl (pi_seq (pe_slice sl_list (pv 0) po_none (po_some pe_int))) (pg_name (i := 2) sc__law_pool.nd rfl (by first | exact Or.inl rfl | exact Or.inr rfl))
        (pss_one (ps_set (i := 1) sc__law_pool.nd rfl (by first | exact Or.inl rfl | exact Or.inr rfl) (pe_op op_mod (pe_callTy call_int1 (by rfl) T.z_int (by decide +kernel) (pa_cons (pe_op op_add (pe_op op_add (pe_op op_mulA (pv 1) pe_int) (pe_op op_mod (pe_callTy call_int1 (by rfl) T.z_int (by decide +kernel) (pa_cons (pv 2) pa_nil)) pe_int)) pe_int) pa_nil)) pe_int))))
      (pss_one (ps_ret (pe_lst (pa_cons (pv 1) (pa_cons pe_int (pa_cons (pe_lc (own := [("cell", 2)]) (g := (gName 2)) (tt := (tTest (tOp rGeI (tCB rAbs (tCons (tVar 2) tNil)) (tOp rPowI (tC (.int 10)) (tC (.int 18)))))) (te := (tCB rAbs (tCons (tVar 2) tNil))) rfl sc__law_pool.nd (pi_seq (pe_slice sl_list (pv 0) po_none (po_some pe_int))) (blkOk_by (N := ["script", "seed", "cell"]) (sc := defScope s__law_pool) (by decide +kernel)) (fun _ _ _ _ _ => (pg_name (i := 2) sc__law_pool.nd rfl (by first | exact Or.inl rfl | exact Or.inr rfl))) (fun _ _ _ _ _ => (pts_one (pt_cmpR op_ge (pe_callB call_abs (by rfl) T.z_abs (by decide +kernel) (pa_cons (pv 2) pa_nil)) (pe_op op_pow pe_int pe_int) (nomark _)))) (fun _ _ _ _ _ => (pe_callB call_abs (by rfl) T.z_abs (by decide +kernel) (pa_cons (pv 2) pa_nil)))) pa_nil)))))))),
    (ds_seq (ds_asg (de_op o_add (de_cb o_len (da_cons (de_var 0) da_nil)) de_int) (dg_name 1))
      (ds_seq (ds_for (wI := (wSeq (wSlL (wVar 0) wNoPart (wPart (wC (.int 63)))))) (wg := (wName 2)) (wb := (wAsg (wOp gModI (wCB gInt1 (wCons (wOp gAddI (wOp gAddI (wOp gMulA (wVar 1) (wC (.int 48271))) (wOp gModI (wCB gInt1 (wCons (wVar 2) wNil)) (wC (.int 2147483629)))) (wC (.int 11))) wNil)) (wC (.int 2147483647))) (wName 1))) (di_seq (de_slL (de_var 0) do_no (do_part de_int))) (dg_name 2) (ds_asg (de_op o_mod (de_cb o_int1 (da_cons (de_op o_add (de_op o_add (de_op o_mulA (de_var 1) de_int) (de_op o_mod (de_cb o_int1 (da_cons (de_var 2) da_nil)) de_int)) de_int) da_nil)) de_int) (dg_name 1)))
      (ds_retPool (de_var 1) de_int (vs := [2]) (wI := (wSeq (wSlL (wVar 0) wNoPart (wPart (wC (.int 63)))))) (wg := (wName 2)) (wt := (wB (wOp gGeI (wCB gAbs (wCons (wVar 2) wNil)) (wOp gPowI (wC (.int 10)) (wC (.int 18)))))) (we := (wCB gAbs (wCons (wVar 2) wNil))) (di_seq (de_slL (de_var 0) do_no (do_part de_int))) (dg_name 2) (dt_B (de_op o_ge (de_cb o_abs (da_cons (de_var 2) da_nil)) (de_op o_pow de_int de_int))) (de_cb o_abs (da_cons (de_var 2) da_nil)) (by decide))))⟩
abbrev s__law_draw : Stmt := topS 56
theorem sc__law_draw : FnScope ["pool", "many", "cells", "digit", "mixed"] ["pool", "many"] (defScope s__law_draw) := ⟨rfl, rfl, rfl, by decide +kernel, rfl, by decide +kernel, by decide +kernel⟩
def w__law_draw (K : PySem.W.Frag) : SW := (wSq (wPoolOpen 0 2)
  (wSq (wIfS (wB (wOp gGtI (wPeek 2 (fun es q => q (.int es.length))) (wC (.int 0)))) (wSq (wAsg (wOp gModI (wCB gInt1 (wCons (wIxOwn 2 (wC (.int 0))) wNil)) (wVar 1)) (wName 3))
  (wSq (wSetOwn 2 (wOp gDivW (wCB gInt1 (wCons (wIxOwn 2 (wC (.int 0))) wNil)) (wVar 1)) (wC (.int 0)))
  (wSq (wIfS (wB (wOp gEq (wIxOwn 2 (wC (.int 0))) (wC (.int 0)))) (wPop0 2) wNext)
  (wPoolClose 0 2 (wRet (wVar 3)))))) wNext)
  (wSq (wSetOwn 0 (wOp gAddI (wIxOwn 0 (wC (.int 1))) (wC (.int 1))) (wC (.int 1)))
  (wSq (wAsg (wOp gModI (wCB gInt1 (wCons (wOp gMulA (wOp gAddI (wIxOwn 0 (wC (.int 0))) (wOp gMulA (wC (.int 7919)) (wIxOwn 0 (wC (.int 1))))) (wC (.int 48271))) wNil)) (wC (.int 2147483647))) (wName 4))
  (wSq (wAsg (wOp gModI (wCB gInt1 (wCons (wOp gMulA (wVar 4) (wOp gAddI (wOp gDivW (wVar 4) (wC (.int 1009))) (wC (.int 69621)))) wNil)) (wC (.int 2147483647))) (wName 4))
  (wSq (wAsg (wOp gModI (wCB gInt1 (wCons (wOp gMulA (wVar 4) (wOp gAddI (wOp gDivW (wVar 4) (wC (.int 2003))) (wC (.int 40692)))) wNil)) (wC (.int 2147483399))) (wName 4))
  (wPoolClose 0 2 (wRet (wOp gModI (wCB gInt1 (wCons (wOp gDivW (wVar 4) (wC (.int 16))) wNil)) (wVar 1))))))))))
def fs__law_draw (K : PySem.W.Frag) : FS := fun cs q _ => ∃ (p : Addr) (c : Cont) (many : Int), cs = [.own p c, .dat (.int many)] ∧ PoolC c ∧ 0 < many ∧ many < 2 ^ 30 ∧
  ∀ (c' : Cont) (n : Int), PoolC c' → 0 ≤ n → n < many → q (.int n) [.own p c', .dat (.int many)]
theorem pure__law_draw : PureD 2 3 (fs__law_draw K) (w__law_draw K) := by
  rintro cs q e - ⟨p, c, many, rfl, ⟨a, b, r, ns, rfl⟩, hm, hm2, hq⟩
  have em : ∀ x : Int, 0 ≤ x % many ∧ x % many < many := fun x => ⟨Int.emod_nonneg x (by omega), Int.emod_lt_of_pos x hm⟩
  cases ns with
  | nil =>
    simp only [w__law_draw, gIsB, gNotB, D.adr.injEq, Cont.pool.injEq, ixN31, ne_eq, List.map_cons, List.map_nil, wPoolOpen, wPoolClose, wPop0, wPopTo, wListOwn, wRemove, wRaise0, wRaise1, wAugOwn, wEnumL, wTru, wSlA, gCatA, gLtT, gLeT, wFrz, wChain3, wAttr, wMkF, wEnumT, wRevT, wDict0, wDict1, numD3, Nat.reduceAdd, atI0, atI1, atI2, atI3, atI4, ixN51, ixN52, ixN53, List.length_map, wNever, scal, V.int.injEq, V.str.injEq, V.bl.injEq, wSq, wNext, wBreak, wCont, wDrop, wRet, wRetN, wIfS, wAsg, wPar, wLstOwn, wAppend, wSetOwn, wIxOwn, wPeek, wRetOwn, wRetFr, wFor, wB, wNot, wAnd, wOr, wAndV, wOrV, wNotV, wIf, wChain, wNil, wCons, wCB, wTup, wLst, wNoPart, wPart, wSlT, wSlL, wSeq, wRng1, wRng2, wZip, wName, wNilT, wConsT, wTupT, wYes, wNeg, wVar, wC, wOp, wcNil, wcCons, wcOwn, wCall, wCallOwn, slots, cellsOf, OwnArgs, putBack, g2I, g2IC, gLen, gAbs, gGcd, gInt1, gTupleOf, gListOf, gIx, gCatT, gCat, gEq, gNe, gIsN, gNotN, scD, seqD_t, seqD_l, seqD_f, isNonD, List.nodup_cons, List.mem_cons, List.not_mem_nil, or_false, not_false_eq_true, Nat.reduceEqDiff, L3.Keeps, ends, wipeD, List.replicate, List.cons_append, List.nil_append, List.append_nil, List.getElem?_cons_zero, List.getElem?_cons_succ, List.set_cons_zero, List.set_cons_succ, List.getD_cons_zero, List.getD_cons_succ, List.length_cons, List.length_nil, List.nodup_nil, Option.some.injEq, Cell.dat.injEq, Cell.own.injEq, Cont.lst.injEq, D.bl.injEq, D.int.injEq, D.str.injEq, D.tup.injEq, D.lst.injEq, Arg.d.injEq, List.cons.injEq, exists_and_left, exists_and_right, exists_eq_left', exists_eq_left, exists_eq_right, exists_eq_right', exists_eq, exists_eq', and_true, true_and, and_assoc, and_self, exists_const, reduceCtorEq]
    refine ⟨by decide, fun z => by simp at z, fun _ => ⟨cmul_l (by decide) (by decide), cmul_r (by decide) (by decide), by decide, divw (by decide) (by decide), cmul_l (by omega) (by omega), by decide, divw (by decide) (by decide), cmul_l (by omega) (by omega), by decide, [], rfl, divw (by decide) (by decide), hm, hq _ _ ⟨_, _, _, _, rfl⟩ (em _).1 (em _).2⟩⟩
  | cons n ns =>
    simp only [w__law_draw, gIsB, gNotB, D.adr.injEq, Cont.pool.injEq, ixN31, ne_eq, List.map_cons, List.map_nil, wPoolOpen, wPoolClose, wPop0, wPopTo, wListOwn, wRemove, wRaise0, wRaise1, wAugOwn, wEnumL, wTru, wSlA, gCatA, gLtT, gLeT, wFrz, wChain3, wAttr, wMkF, wEnumT, wRevT, wDict0, wDict1, numD3, Nat.reduceAdd, atI0, atI1, atI2, atI3, atI4, ixN51, ixN52, ixN53, List.length_map, wNever, scal, V.int.injEq, V.str.injEq, V.bl.injEq, wSq, wNext, wBreak, wCont, wDrop, wRet, wRetN, wIfS, wAsg, wPar, wLstOwn, wAppend, wSetOwn, wIxOwn, wPeek, wRetOwn, wRetFr, wFor, wB, wNot, wAnd, wOr, wAndV, wOrV, wNotV, wIf, wChain, wNil, wCons, wCB, wTup, wLst, wNoPart, wPart, wSlT, wSlL, wSeq, wRng1, wRng2, wZip, wName, wNilT, wConsT, wTupT, wYes, wNeg, wVar, wC, wOp, wcNil, wcCons, wcOwn, wCall, wCallOwn, slots, cellsOf, OwnArgs, putBack, g2I, g2IC, gLen, gAbs, gGcd, gInt1, gTupleOf, gListOf, gIx, gCatT, gCat, gEq, gNe, gIsN, gNotN, scD, seqD_t, seqD_l, seqD_f, isNonD, List.nodup_cons, List.mem_cons, List.not_mem_nil, or_false, not_false_eq_true, Nat.reduceEqDiff, L3.Keeps, ends, wipeD, List.replicate, List.cons_append, List.nil_append, List.append_nil, List.getElem?_cons_zero, List.getElem?_cons_succ, List.set_cons_zero, List.set_cons_succ, List.getD_cons_zero, List.getD_cons_succ, List.length_cons, List.length_nil, List.nodup_nil, Option.some.injEq, Cell.dat.injEq, Cell.own.injEq, Cont.lst.injEq, D.bl.injEq, D.int.injEq, D.str.injEq, D.tup.injEq, D.lst.injEq, Arg.d.injEq, List.cons.injEq, exists_and_left, exists_and_right, exists_eq_left', exists_eq_left, exists_eq_right, exists_eq_right', exists_eq, exists_eq', and_true, true_and, and_assoc, and_self, exists_const, reduceCtorEq]
    refine ⟨by decide, fun _ => ?_, fun z => by simp at z⟩
    have e0 : ixN (ns.length + 1) 0 = some 0 := by unfold ixN; simp
    simp only [atI0, atI1, e0, hm, divw hm hm2, gIsB, gNotB, D.adr.injEq, Cont.pool.injEq, ixN31, ne_eq, List.map_cons, List.map_nil, wPoolOpen, wPoolClose, wPop0, wPopTo, wListOwn, wRemove, wRaise0, wRaise1, wAugOwn, wEnumL, wTru, wSlA, gCatA, gLtT, gLeT, wFrz, wChain3, wAttr, wMkF, wEnumT, wRevT, wDict0, wDict1, numD3, Nat.reduceAdd, atI0, atI1, atI2, atI3, atI4, ixN51, ixN52, ixN53, List.length_map, wNever, scal, V.int.injEq, V.str.injEq, V.bl.injEq, wSq, wNext, wBreak, wCont, wDrop, wRet, wRetN, wIfS, wAsg, wPar, wLstOwn, wAppend, wSetOwn, wIxOwn, wPeek, wRetOwn, wRetFr, wFor, wB, wNot, wAnd, wOr, wAndV, wOrV, wNotV, wIf, wChain, wNil, wCons, wCB, wTup, wLst, wNoPart, wPart, wSlT, wSlL, wSeq, wRng1, wRng2, wZip, wName, wNilT, wConsT, wTupT, wYes, wNeg, wVar, wC, wOp, wcNil, wcCons, wcOwn, wCall, wCallOwn, slots, cellsOf, OwnArgs, putBack, g2I, g2IC, gLen, gAbs, gGcd, gInt1, gTupleOf, gListOf, gIx, gCatT, gCat, gEq, gNe, gIsN, gNotN, scD, seqD_t, seqD_l, seqD_f, isNonD, List.nodup_cons, List.mem_cons, List.not_mem_nil, or_false, not_false_eq_true, Nat.reduceEqDiff, L3.Keeps, ends, wipeD, List.replicate, List.cons_append, List.nil_append, List.append_nil, List.getElem?_cons_zero, List.getElem?_cons_succ, List.set_cons_zero, List.set_cons_succ, List.getD_cons_zero, List.getD_cons_succ, List.length_cons, List.length_nil, List.nodup_nil, Option.some.injEq, Cell.dat.injEq, Cell.own.injEq, Cont.lst.injEq, D.bl.injEq, D.int.injEq, D.str.injEq, D.tup.injEq, D.lst.injEq, Arg.d.injEq, List.cons.injEq, exists_and_left, exists_and_right, exists_eq_left', exists_eq_left, exists_eq_right, exists_eq_right', exists_eq, exists_eq', and_true, true_and, and_assoc, and_self, exists_const, reduceCtorEq]
    refine ⟨fun _ => ⟨ns, rfl, hq _ _ ⟨_, _, _, _, rfl⟩ (em _).1 (em _).2⟩, fun _ => ⟨(n / many) :: ns, rfl, hq _ _ ⟨_, _, _, _, rfl⟩ (em _).1 (em _).2⟩⟩
theorem ok__law_draw (T : Txt K mg) : FnOk P w K mg base (L2.CX P w) 1 T.f__law_draw T.fd__law_draw ["pool", "many"] (spOf K 2 (fs__law_draw K)) := by
  refine def_ok T.F__law_draw sc__law_draw (wb := w__law_draw K) pure__law_draw ?_
  intro cdv A outer s H E hr tk
  exact ⟨_, (pss_cons (ps_set (i := 2) sc__law_draw.nd rfl (by first | exact Or.inl rfl | exact Or.inr rfl) (pe_ix ix_seq (pv 0) pe_int (fun _ _ => rfl)))
      (pss_cons (ps_if (pt_cmpR op_gt (pe_callB call_len_seq (by rfl) T.z_len (by decide +kernel) (pa_cons (pv 2) pa_nil)) pe_int (nomark _))
        (pss_cons (ps_set (i := 3) sc__law_draw.nd rfl (by first | exact Or.inl rfl | exact Or.inr rfl) (pe_op op_mod (pe_callTy call_int1 (by rfl) T.z_int (by decide +kernel) (pa_cons (pe_ix ix_seq (pv 2) pe_int (fun _ _ => rfl)) pa_nil)) (pv 1)))
      (pss_cons (ps_asg (pe_op op_fdivW (pe_callTy call_int1 (by rfl) T.z_int (by decide +kernel) (pa_cons (pe_ix ix_seq (pv 2) pe_int (fun _ _ => rfl)) pa_nil)) (pv 1)) (pg_sub (pv 2) pe_int set_list))
      (pss_cons (ps_if (pt_cmpR op_eq (pe_ix ix_seq (pv 2) pe_int (fun _ _ => rfl)) pe_int (nomark _))
        (pss_one (ps_expr (pe_bm PySem.F.plainAttrs_list PySem.F.slot_list_pop PySem.F.type_list_pop mt_popAt (pv 2) (pa_cons pe_int pa_nil))))
        pss_nil)
      (pss_one (ps_ret (pv 3))))))
        pss_nil)
      (pss_cons (ps_asg (pe_op op_add (pe_ix ix_seq (pv 0) pe_int (fun _ _ => rfl)) pe_int) (pg_sub (pv 0) pe_int set_list))
      (pss_cons (ps_set (i := 4) sc__law_draw.nd rfl (by first | exact Or.inl rfl | exact Or.inr rfl) (pe_op op_mod (pe_callTy call_int1 (by rfl) T.z_int (by decide +kernel) (pa_cons (pe_op op_mulA (pe_op op_add (pe_ix ix_seq (pv 0) pe_int (fun _ _ => rfl)) (pe_op op_mulA pe_int (pe_ix ix_seq (pv 0) pe_int (fun _ _ => rfl)))) pe_int) pa_nil)) pe_int))
      (pss_cons (ps_set (i := 4) sc__law_draw.nd rfl (by first | exact Or.inl rfl | exact Or.inr rfl) (pe_op op_mod (pe_callTy call_int1 (by rfl) T.z_int (by decide +kernel) (pa_cons (pe_op op_mulA (pv 4) (pe_op op_add (pe_op op_fdivW (pv 4) pe_int) pe_int)) pa_nil)) pe_int))
      (pss_cons (ps_set (i := 4) sc__law_draw.nd rfl (by first | exact Or.inl rfl | exact Or.inr rfl) (pe_op op_mod (pe_callTy call_int1 (by rfl) T.z_int (by decide +kernel) (pa_cons (pe_op op_mulA (pv 4) (pe_op op_add (pe_op op_fdivW (pv 4) pe_int) pe_int)) pa_nil)) pe_int))
      (pss_one (ps_ret (pe_op op_mod (pe_callTy call_int1 (by rfl) T.z_int (by decide +kernel) (pa_cons (pe_op op_fdivW (pv 4) pe_int) pa_nil)) (pv 1)))))))))),
    (ds_seq (ds_poolOpen (i := 0) (j := 2))
      (ds_seq (ds_if (dt_B (de_op o_gt (de_peek (i := 2) p_len) de_int)) (ds_seq (ds_asg (de_op o_mod (de_cb o_int1 (da_cons (de_ixOwn (i := 2) de_int) da_nil)) (de_var 1)) (dg_name 3))
      (ds_seq (ds_setOwn (i := 2) (de_op o_fdivW (de_cb o_int1 (da_cons (de_ixOwn (i := 2) de_int) da_nil)) (de_var 1)) de_int)
      (ds_seq (ds_if (dt_B (de_op o_eq (de_ixOwn (i := 2) de_int) de_int)) (ds_pop0 (i := 2)) ds_nil)
      (ds_poolClose (i := 0) (j := 2) (ds_ret (de_var 3)))))) ds_nil)
      (ds_seq (ds_setOwn (i := 0) (de_op o_add (de_ixOwn (i := 0) de_int) de_int) de_int)
      (ds_seq (ds_asg (de_op o_mod (de_cb o_int1 (da_cons (de_op o_mulA (de_op o_add (de_ixOwn (i := 0) de_int) (de_op o_mulA de_int (de_ixOwn (i := 0) de_int))) de_int) da_nil)) de_int) (dg_name 4))
      (ds_seq (ds_asg (de_op o_mod (de_cb o_int1 (da_cons (de_op o_mulA (de_var 4) (de_op o_add (de_op o_fdivW (de_var 4) de_int) de_int)) da_nil)) de_int) (dg_name 4))
      (ds_seq (ds_asg (de_op o_mod (de_cb o_int1 (da_cons (de_op o_mulA (de_var 4) (de_op o_add (de_op o_fdivW (de_var 4) de_int) de_int)) da_nil)) de_int) (dg_name 4))
      (ds_poolClose (i := 0) (j := 2) (ds_ret (de_op o_mod (de_cb o_int1 (da_cons (de_op o_fdivW (de_var 4) de_int) da_nil)) (de_var 1))))))))))⟩
abbrev s__law_divisor : Stmt := topS 57
theorem sc__law_divisor : FnScope ["one", "other"] ["one", "other"] (defScope s__law_divisor) := ⟨rfl, rfl, rfl, by decide +kernel, rfl, by decide +kernel, by decide +kernel⟩
def l1__law_divisor (K : PySem.W.Frag) : SW := wWhile (wB (wOp gGtI (wVar 1) (wC (.int 0)))) (wPar 0 1 (wCons (wVar 1) (wCons (wOp gModI (wCB gInt1 (wCons (wVar 0) wNil)) (wVar 1)) wNil)))
def w__law_divisor (K : PySem.W.Frag) : SW := (wSq (l1__law_divisor K)
  (wRet (wVar 0)))
def fs__law_divisor (K : PySem.W.Frag) : FS := fun cs q _ => ∃ (a b : Int), cs = [.dat (.int a), .dat (.int b)] ∧ 0 ≤ a ∧ 0 ≤ b ∧ q (.int (Nat.gcd a.natAbs b.natAbs : Nat)) cs
theorem l1__law_divisor_ok {a b : Nat} {E : EndsD} (hq : E.nx [.dat (.int (Nat.gcd a b : Nat)), .dat (.int 0)]) : l1__law_divisor K E [.dat (.int a), .dat (.int b)] := by
  unfold l1__law_divisor wWhile
  refine ⟨fun m τ => ∃ x y : Nat, τ = [.dat (.int x), .dat (.int y)] ∧ Nat.gcd x y = Nat.gcd a b ∧ m = y, ⟨b, a, b, rfl, rfl, rfl⟩, ?_⟩
  rintro m τ ⟨x, y, rfl, hg, rfl⟩
  simp only [gIsB, gNotB, D.adr.injEq, Cont.pool.injEq, ixN31, ne_eq, List.map_cons, List.map_nil, wPoolOpen, wPoolClose, wPop0, wPopTo, wListOwn, wRemove, wRaise0, wRaise1, wAugOwn, wEnumL, wTru, wSlA, gCatA, gLtT, gLeT, wFrz, wChain3, wAttr, wMkF, wEnumT, wRevT, wDict0, wDict1, numD3, Nat.reduceAdd, atI0, atI1, atI2, atI3, atI4, ixN51, ixN52, ixN53, List.length_map, wNever, scal, V.int.injEq, V.str.injEq, V.bl.injEq, wSq, wNext, wBreak, wCont, wDrop, wRet, wRetN, wIfS, wAsg, wPar, wLstOwn, wAppend, wSetOwn, wIxOwn, wPeek, wRetOwn, wRetFr, wFor, wB, wNot, wAnd, wOr, wAndV, wOrV, wNotV, wIf, wChain, wNil, wCons, wCB, wTup, wLst, wNoPart, wPart, wSlT, wSlL, wSeq, wRng1, wRng2, wZip, wName, wNilT, wConsT, wTupT, wYes, wNeg, wVar, wC, wOp, wcNil, wcCons, wcOwn, wCall, wCallOwn, slots, cellsOf, OwnArgs, putBack, g2I, g2IC, gLen, gAbs, gGcd, gInt1, gTupleOf, gListOf, gIx, gCatT, gCat, gEq, gNe, gIsN, gNotN, scD, seqD_t, seqD_l, seqD_f, isNonD, List.nodup_cons, List.mem_cons, List.not_mem_nil, or_false, not_false_eq_true, Nat.reduceEqDiff, L3.Keeps, ends, wipeD, List.replicate, List.cons_append, List.nil_append, List.append_nil, List.getElem?_cons_zero, List.getElem?_cons_succ, List.set_cons_zero, List.set_cons_succ, List.getD_cons_zero, List.getD_cons_succ, List.length_cons, List.length_nil, List.nodup_nil, Option.some.injEq, Cell.dat.injEq, Cell.own.injEq, Cont.lst.injEq, D.bl.injEq, D.int.injEq, D.str.injEq, D.tup.injEq, D.lst.injEq, Arg.d.injEq, List.cons.injEq, exists_and_left, exists_and_right, exists_eq_left', exists_eq_left, exists_eq_right, exists_eq_right', exists_eq, exists_eq', and_true, true_and, and_assoc, and_self, exists_const, reduceCtorEq]
  refine ⟨fun z => ?_, fun z => ?_⟩
  · have hy : 0 < m := by simpa using z
    refine ⟨by omega, x % m, Nat.mod_lt x hy, m, rfl, x % m, by simp, ?_, rfl⟩
    rw [← hg, Nat.gcd_comm m, ← Nat.gcd_rec, Nat.gcd_comm]
  · have hy : m = 0 := by simpa using z
    subst hy
    rw [Nat.gcd_zero_right] at hg
    rw [hg]
    exact hq
theorem pure__law_divisor : PureD 2 0 (fs__law_divisor K) (w__law_divisor K) := by
  rintro cs q e - ⟨a, b, rfl, h1, h2, hq⟩
  obtain ⟨a, rfl⟩ := Int.eq_ofNat_of_zero_le h1
  obtain ⟨b, rfl⟩ := Int.eq_ofNat_of_zero_le h2
  simp only [w__law_divisor, gIsB, gNotB, D.adr.injEq, Cont.pool.injEq, ixN31, ne_eq, List.map_cons, List.map_nil, wPoolOpen, wPoolClose, wPop0, wPopTo, wListOwn, wRemove, wRaise0, wRaise1, wAugOwn, wEnumL, wTru, wSlA, gCatA, gLtT, gLeT, wFrz, wChain3, wAttr, wMkF, wEnumT, wRevT, wDict0, wDict1, numD3, Nat.reduceAdd, atI0, atI1, atI2, atI3, atI4, ixN51, ixN52, ixN53, List.length_map, wNever, scal, V.int.injEq, V.str.injEq, V.bl.injEq, wSq, wNext, wBreak, wCont, wDrop, wRet, wRetN, wIfS, wAsg, wPar, wLstOwn, wAppend, wSetOwn, wIxOwn, wPeek, wRetOwn, wRetFr, wFor, wB, wNot, wAnd, wOr, wAndV, wOrV, wNotV, wIf, wChain, wNil, wCons, wCB, wTup, wLst, wNoPart, wPart, wSlT, wSlL, wSeq, wRng1, wRng2, wZip, wName, wNilT, wConsT, wTupT, wYes, wNeg, wVar, wC, wOp, wcNil, wcCons, wcOwn, wCall, wCallOwn, slots, cellsOf, OwnArgs, putBack, g2I, g2IC, gLen, gAbs, gGcd, gInt1, gTupleOf, gListOf, gIx, gCatT, gCat, gEq, gNe, gIsN, gNotN, scD, seqD_t, seqD_l, seqD_f, isNonD, List.nodup_cons, List.mem_cons, List.not_mem_nil, or_false, not_false_eq_true, Nat.reduceEqDiff, L3.Keeps, ends, wipeD, List.replicate, List.cons_append, List.nil_append, List.append_nil, List.getElem?_cons_zero, List.getElem?_cons_succ, List.set_cons_zero, List.set_cons_succ, List.getD_cons_zero, List.getD_cons_succ, List.length_cons, List.length_nil, List.nodup_nil, Option.some.injEq, Cell.dat.injEq, Cell.own.injEq, Cont.lst.injEq, D.bl.injEq, D.int.injEq, D.str.injEq, D.tup.injEq, D.lst.injEq, Arg.d.injEq, List.cons.injEq, exists_and_left, exists_and_right, exists_eq_left', exists_eq_left, exists_eq_right, exists_eq_right', exists_eq, exists_eq', and_true, true_and, and_assoc, and_self, exists_const, reduceCtorEq]
  refine l1__law_divisor_ok ?_
  simp only [gIsB, gNotB, D.adr.injEq, Cont.pool.injEq, ixN31, ne_eq, List.map_cons, List.map_nil, wPoolOpen, wPoolClose, wPop0, wPopTo, wListOwn, wRemove, wRaise0, wRaise1, wAugOwn, wEnumL, wTru, wSlA, gCatA, gLtT, gLeT, wFrz, wChain3, wAttr, wMkF, wEnumT, wRevT, wDict0, wDict1, numD3, Nat.reduceAdd, atI0, atI1, atI2, atI3, atI4, ixN51, ixN52, ixN53, List.length_map, wNever, scal, V.int.injEq, V.str.injEq, V.bl.injEq, wSq, wNext, wBreak, wCont, wDrop, wRet, wRetN, wIfS, wAsg, wPar, wLstOwn, wAppend, wSetOwn, wIxOwn, wPeek, wRetOwn, wRetFr, wFor, wB, wNot, wAnd, wOr, wAndV, wOrV, wNotV, wIf, wChain, wNil, wCons, wCB, wTup, wLst, wNoPart, wPart, wSlT, wSlL, wSeq, wRng1, wRng2, wZip, wName, wNilT, wConsT, wTupT, wYes, wNeg, wVar, wC, wOp, wcNil, wcCons, wcOwn, wCall, wCallOwn, slots, cellsOf, OwnArgs, putBack, g2I, g2IC, gLen, gAbs, gGcd, gInt1, gTupleOf, gListOf, gIx, gCatT, gCat, gEq, gNe, gIsN, gNotN, scD, seqD_t, seqD_l, seqD_f, isNonD, List.nodup_cons, List.mem_cons, List.not_mem_nil, or_false, not_false_eq_true, Nat.reduceEqDiff, L3.Keeps, ends, wipeD, List.replicate, List.cons_append, List.nil_append, List.append_nil, List.getElem?_cons_zero, List.getElem?_cons_succ, List.set_cons_zero, List.set_cons_succ, List.getD_cons_zero, List.getD_cons_succ, List.length_cons, List.length_nil, List.nodup_nil, Option.some.injEq, Cell.dat.injEq, Cell.own.injEq, Cont.lst.injEq, D.bl.injEq, D.int.injEq, D.str.injEq, D.tup.injEq, D.lst.injEq, Arg.d.injEq, List.cons.injEq, exists_and_left, exists_and_right, exists_eq_left', exists_eq_left, exists_eq_right, exists_eq_right', exists_eq, exists_eq', and_true, true_and, and_assoc, and_self, exists_const, reduceCtorEq]
  exact hq
theorem ok__law_divisor (T : Txt K mg) : FnOk P w K mg base (L2.CX P w) 1 T.f__law_divisor T.fd__law_divisor ["one", "other"] (spOf K 2 (fs__law_divisor K)) := by
  refine def_ok T.F__law_divisor sc__law_divisor (wb := w__law_divisor K) pure__law_divisor ?_
  intro cdv A outer s H E hr tk
  exact ⟨_, (pss_cons (ps_while (passes_of rfl) (pt_cmpR op_gt (pv 1) pe_int (nomark _))
        (pss_one (ps_par (i := 0) (j := 1) (by rfl) sc__law_divisor.nd rfl rfl (by decide) rfl rfl (pa_cons (pv 1) (pa_cons (pe_op op_mod (pe_callTy call_int1 (by rfl) T.z_int (by decide +kernel) (pa_cons (pv 0) pa_nil)) (pv 1)) pa_nil)) (by rfl))))
      (pss_one (ps_ret (pv 0)))),
    (ds_seq (ds_while (wc := (wB (wOp gGtI (wVar 1) (wC (.int 0))))) (wb := (wPar 0 1 (wCons (wVar 1) (wCons (wOp gModI (wCB gInt1 (wCons (wVar 0) wNil)) (wVar 1)) wNil)))) (dt_B (de_op o_gt (de_var 1) de_int)) (ds_par (i := 0) (j := 1) (da_cons (de_var 1) (da_cons (de_op o_mod (de_cb o_int1 (da_cons (de_var 0) da_nil)) (de_var 1)) da_nil))))
      (ds_ret (de_var 0)))⟩
abbrev s__law_lowest : Stmt := topS 58
theorem sc__law_lowest : FnScope ["top", "bottom", "part"] ["top", "bottom"] (defScope s__law_lowest) := ⟨rfl, rfl, rfl, by decide +kernel, rfl, by decide +kernel, by decide +kernel⟩
def w__law_lowest (K : PySem.W.Frag) : SW := (wSq (wAsg (wCall 2 (fs__law_divisor K) (wcCons (wCB gAbs (wCons (wVar 0) wNil)) (wcCons (wVar 1) wcNil))) (wName 2))
  (wRet (wTup (wCons (wOp gDivW (wVar 0) (wVar 2)) (wCons (wOp gDivW (wVar 1) (wVar 2)) wNil)))))
def fs__law_lowest (K : PySem.W.Frag) : FS := fun cs q _ => ∃ (t b : Int), cs = [.dat (.int t), .dat (.int b)] ∧ 0 < b ∧ b.natAbs < 2 ^ 900 ∧ q (nf t b) cs
theorem abs_abs (a : Int) : (if a < 0 then -a else a).natAbs = a.natAbs := by split <;> omega
theorem pure__law_lowest : PureD 2 1 (fs__law_lowest K) (w__law_lowest K) := by
  rintro cs q e - ⟨t, b, rfl, h0, h1, hq⟩
  simp only [w__law_lowest, fs__law_divisor, abs_abs, gIsB, gNotB, D.adr.injEq, Cont.pool.injEq, ixN31, ne_eq, List.map_cons, List.map_nil, wPoolOpen, wPoolClose, wPop0, wPopTo, wListOwn, wRemove, wRaise0, wRaise1, wAugOwn, wEnumL, wTru, wSlA, gCatA, gLtT, gLeT, wFrz, wChain3, wAttr, wMkF, wEnumT, wRevT, wDict0, wDict1, numD3, Nat.reduceAdd, atI0, atI1, atI2, atI3, atI4, ixN51, ixN52, ixN53, List.length_map, wNever, scal, V.int.injEq, V.str.injEq, V.bl.injEq, wSq, wNext, wBreak, wCont, wDrop, wRet, wRetN, wIfS, wAsg, wPar, wLstOwn, wAppend, wSetOwn, wIxOwn, wPeek, wRetOwn, wRetFr, wFor, wB, wNot, wAnd, wOr, wAndV, wOrV, wNotV, wIf, wChain, wNil, wCons, wCB, wTup, wLst, wNoPart, wPart, wSlT, wSlL, wSeq, wRng1, wRng2, wZip, wName, wNilT, wConsT, wTupT, wYes, wNeg, wVar, wC, wOp, wcNil, wcCons, wcOwn, wCall, wCallOwn, slots, cellsOf, OwnArgs, putBack, g2I, g2IC, gLen, gAbs, gGcd, gInt1, gTupleOf, gListOf, gIx, gCatT, gCat, gEq, gNe, gIsN, gNotN, scD, seqD_t, seqD_l, seqD_f, isNonD, List.nodup_cons, List.mem_cons, List.not_mem_nil, or_false, not_false_eq_true, Nat.reduceEqDiff, L3.Keeps, ends, wipeD, List.replicate, List.cons_append, List.nil_append, List.append_nil, List.getElem?_cons_zero, List.getElem?_cons_succ, List.set_cons_zero, List.set_cons_succ, List.getD_cons_zero, List.getD_cons_succ, List.length_cons, List.length_nil, List.nodup_nil, Option.some.injEq, Cell.dat.injEq, Cell.own.injEq, Cont.lst.injEq, D.bl.injEq, D.int.injEq, D.str.injEq, D.tup.injEq, D.lst.injEq, Arg.d.injEq, List.cons.injEq, exists_and_left, exists_and_right, exists_eq_left', exists_eq_left, exists_eq_right, exists_eq_right', exists_eq, exists_eq', and_true, true_and, and_assoc, and_self, exists_const, reduceCtorEq]
  exact ⟨by split <;> omega, by omega, gcd_w h0 h1 _, gcd_w h0 h1 _, by decide, hq⟩
theorem th_nf {t b : Int} (h1 : 0 < t) (h2 : 0 < b) (h3 : t ≤ 1000000) (h4 : b ≤ 144) : isTh (nf t b) = true := by
  obtain ⟨t', b', e1, b0, e2, e3, e4, e5⟩ := nf_parts (t := t) h2
  have t0 : 0 < t' := by
    have : 0 < b * t' := by rw [Int.mul_comm, e2]; exact Int.mul_pos h1 b0
    exact pos_right h2 this
  rw [e1]
  simp only [isTh, isFr, e5, Bool.and_eq_true, decide_eq_true_eq]
  refine ⟨⟨⟨⟨by omega, trivial⟩, by omega⟩, by omega⟩, by omega⟩
theorem ok__law_lowest (T : Txt K mg) : FnOk P w K mg base (L2.CX P w) 2 T.f__law_lowest T.fd__law_lowest ["top", "bottom"] (spOf K 2 (fs__law_lowest K)) := by
  refine def_ok T.F__law_lowest sc__law_lowest (wb := w__law_lowest K) pure__law_lowest ?_
  intro cdv A outer s H E hr tk
  exact ⟨_, (pss_cons (ps_set (i := 2) sc__law_lowest.nd rfl (by first | exact Or.inl rfl | exact Or.inr rfl) (pe_callS (ok__law_divisor T) (hr.mono (by decide)) rfl T.g__law_divisor T.k__law_divisor T.b__law_divisor (fun σ => passAt tk σ) (pa_cons (pe_callB call_abs (by rfl) T.z_abs (by decide +kernel) (pa_cons (pv 0) pa_nil)) (pa_cons (pv 1) pa_nil))))
      (pss_one (ps_ret (pe_tup (pa_cons (pe_op op_fdivW (pv 0) (pv 2)) (pa_cons (pe_op op_fdivW (pv 1) (pv 2)) pa_nil)))))),
    (ds_seq (ds_asg (de_call (n := 2) (fs := fs__law_divisor K) (dac_cons (de_cb o_abs (da_cons (de_var 0) da_nil)) (dac_cons (de_var 1) dac_nil))) (dg_name 2))
      (ds_ret (de_tup (da_cons (de_op o_fdivW (de_var 0) (de_var 2)) (da_cons (de_op o_fdivW (de_var 1) (de_var 2)) da_nil)))))⟩
abbrev s__law_grains : Stmt := topS 59
theorem sc__law_grains : FnScope ["width", "other"] ["width", "other"] (defScope s__law_grains) := ⟨rfl, rfl, rfl, by decide +kernel, rfl, by decide +kernel, by decide +kernel⟩
def w__law_grains (K : PySem.W.Frag) : SW := (wSq (wIfS (wOr (wB (wOp gEq (wVar 0) (wC (.int 0)))) (wB (wOp gEq (wVar 1) (wC (.int 0))))) (wRet (wCB gMax2 (wCons (wVar 0) (wCons (wVar 1) wNil)))) wNext)
  (wRet (wOp gMulA (wOp gDivW (wVar 0) (wCall 2 (fs__law_divisor K) (wcCons (wVar 0) (wcCons (wVar 1) wcNil)))) (wVar 1))))
def fs__law_grains (K : PySem.W.Frag) : FS := fun cs q _ => ∃ (w o : Int), cs = [.dat (.int w), .dat (.int o)] ∧ 0 ≤ w ∧ w ≤ 12 ∧ 0 ≤ o ∧ o ≤ 12 ∧ q (.int (grI w o)) cs
theorem pure__law_grains : PureD 2 0 (fs__law_grains K) (w__law_grains K) := by
  rintro cs q e - ⟨w, o, rfl, w0, w1, o0, o1, hq⟩
  by_cases h : w = 0 ∨ o = 0
  · have e1 : grI w o = (if w < o then o else w) := by unfold grI; rw [if_pos h]
    rw [e1] at hq
    have m : gMax2 [D.int w, D.int o] fun d => q d [Cell.dat (D.int w), Cell.dat (D.int o)] := ⟨w, o, rfl, hq⟩
    simp only [w__law_grains, fs__law_divisor, gIsB, gNotB, D.adr.injEq, Cont.pool.injEq, ixN31, ne_eq, List.map_cons, List.map_nil, wPoolOpen, wPoolClose, wPop0, wPopTo, wListOwn, wRemove, wRaise0, wRaise1, wAugOwn, wEnumL, wTru, wSlA, gCatA, gLtT, gLeT, wFrz, wChain3, wAttr, wMkF, wEnumT, wRevT, wDict0, wDict1, numD3, Nat.reduceAdd, atI0, atI1, atI2, atI3, atI4, ixN51, ixN52, ixN53, List.length_map, wNever, scal, V.int.injEq, V.str.injEq, V.bl.injEq, wSq, wNext, wBreak, wCont, wDrop, wRet, wRetN, wIfS, wAsg, wPar, wLstOwn, wAppend, wSetOwn, wIxOwn, wPeek, wRetOwn, wRetFr, wFor, wB, wNot, wAnd, wOr, wAndV, wOrV, wNotV, wIf, wChain, wNil, wCons, wCB, wTup, wLst, wNoPart, wPart, wSlT, wSlL, wSeq, wRng1, wRng2, wZip, wName, wNilT, wConsT, wTupT, wYes, wNeg, wVar, wC, wOp, wcNil, wcCons, wcOwn, wCall, wCallOwn, slots, cellsOf, OwnArgs, putBack, g2I, g2IC, gLen, gAbs, gGcd, gInt1, gTupleOf, gListOf, gIx, gCatT, gCat, gEq, gNe, gIsN, gNotN, scD, seqD_t, seqD_l, seqD_f, isNonD, List.nodup_cons, List.mem_cons, List.not_mem_nil, or_false, not_false_eq_true, Nat.reduceEqDiff, L3.Keeps, ends, wipeD, List.replicate, List.cons_append, List.nil_append, List.append_nil, List.getElem?_cons_zero, List.getElem?_cons_succ, List.set_cons_zero, List.set_cons_succ, List.getD_cons_zero, List.getD_cons_succ, List.length_cons, List.length_nil, List.nodup_nil, Option.some.injEq, Cell.dat.injEq, Cell.own.injEq, Cont.lst.injEq, D.bl.injEq, D.int.injEq, D.str.injEq, D.tup.injEq, D.lst.injEq, Arg.d.injEq, List.cons.injEq, exists_and_left, exists_and_right, exists_eq_left', exists_eq_left, exists_eq_right, exists_eq_right', exists_eq, exists_eq', and_true, true_and, and_assoc, and_self, exists_const, reduceCtorEq]
    rcases h with h | h <;> simp [h] at m ⊢ <;> simp [m]
  · have e1 : grI w o = w / ((Nat.gcd w.natAbs o.natAbs : Nat) : Int) * o := by unfold grI; rw [if_neg h]
    rw [e1] at hq
    rw [not_or] at h
    simp only [w__law_grains, fs__law_divisor, gIsB, gNotB, D.adr.injEq, Cont.pool.injEq, ixN31, ne_eq, List.map_cons, List.map_nil, wPoolOpen, wPoolClose, wPop0, wPopTo, wListOwn, wRemove, wRaise0, wRaise1, wAugOwn, wEnumL, wTru, wSlA, gCatA, gLtT, gLeT, wFrz, wChain3, wAttr, wMkF, wEnumT, wRevT, wDict0, wDict1, numD3, Nat.reduceAdd, atI0, atI1, atI2, atI3, atI4, ixN51, ixN52, ixN53, List.length_map, wNever, scal, V.int.injEq, V.str.injEq, V.bl.injEq, wSq, wNext, wBreak, wCont, wDrop, wRet, wRetN, wIfS, wAsg, wPar, wLstOwn, wAppend, wSetOwn, wIxOwn, wPeek, wRetOwn, wRetFr, wFor, wB, wNot, wAnd, wOr, wAndV, wOrV, wNotV, wIf, wChain, wNil, wCons, wCB, wTup, wLst, wNoPart, wPart, wSlT, wSlL, wSeq, wRng1, wRng2, wZip, wName, wNilT, wConsT, wTupT, wYes, wNeg, wVar, wC, wOp, wcNil, wcCons, wcOwn, wCall, wCallOwn, slots, cellsOf, OwnArgs, putBack, g2I, g2IC, gLen, gAbs, gGcd, gInt1, gTupleOf, gListOf, gIx, gCatT, gCat, gEq, gNe, gIsN, gNotN, scD, seqD_t, seqD_l, seqD_f, isNonD, List.nodup_cons, List.mem_cons, List.not_mem_nil, or_false, not_false_eq_true, Nat.reduceEqDiff, L3.Keeps, ends, wipeD, List.replicate, List.cons_append, List.nil_append, List.append_nil, List.getElem?_cons_zero, List.getElem?_cons_succ, List.set_cons_zero, List.set_cons_succ, List.getD_cons_zero, List.getD_cons_succ, List.length_cons, List.length_nil, List.nodup_nil, Option.some.injEq, Cell.dat.injEq, Cell.own.injEq, Cont.lst.injEq, D.bl.injEq, D.int.injEq, D.str.injEq, D.tup.injEq, D.lst.injEq, Arg.d.injEq, List.cons.injEq, exists_and_left, exists_and_right, exists_eq_left', exists_eq_left, exists_eq_right, exists_eq_right', exists_eq, exists_eq', and_true, true_and, and_assoc, and_self, exists_const, reduceCtorEq]
    simp [h.1, h.2]
    have hg : 0 < Nat.gcd w.natAbs o.natAbs := Nat.gcd_pos_of_pos_right _ (by omega)
    have gb : Nat.gcd w.natAbs o.natAbs ≤ o.natAbs := Nat.le_of_dvd (by omega) (Nat.gcd_dvd_right _ _)
    exact ⟨w0, o0, divw (by omega) (by omega), cmul_r (by omega) (by omega), hq⟩
theorem ok__law_grains (T : Txt K mg) : FnOk P w K mg base (L2.CX P w) 2 T.f__law_grains T.fd__law_grains ["width", "other"] (spOf K 2 (fs__law_grains K)) := by
  refine def_ok T.F__law_grains sc__law_grains (wb := w__law_grains K) pure__law_grains ?_
  intro cdv A outer s H E hr tk
  exact ⟨_, (pss_cons (ps_if (PW.pt (pw_or (pt_cmpR op_eq (pv 0) pe_int (nomark _)) (pw_or1 (pt_cmpR op_eq (pv 1) pe_int (nomark _)))))
        (pss_one (ps_ret (pe_callB (call_max2 rfl) (by rfl) T.z_max (by decide +kernel) (pa_cons (pv 0) (pa_cons (pv 1) pa_nil)))))
        pss_nil)
      (pss_one (ps_ret (pe_op op_mulA (pe_op op_fdivW (pv 0) (pe_callS (ok__law_divisor T) (hr.mono (by decide)) rfl T.g__law_divisor T.k__law_divisor T.b__law_divisor (fun σ => passAt tk σ) (pa_cons (pv 0) (pa_cons (pv 1) pa_nil)))) (pv 1))))),
    (ds_seq (ds_if (dt_or (dt_B (de_op o_eq (de_var 0) de_int)) (dt_B (de_op o_eq (de_var 1) de_int))) (ds_ret (de_cb o_max2 (da_cons (de_var 0) (da_cons (de_var 1) da_nil)))) ds_nil)
      (ds_ret (de_op o_mulA (de_op o_fdivW (de_var 0) (de_call (n := 2) (fs := fs__law_divisor K) (dac_cons (de_var 0) (dac_cons (de_var 1) dac_nil)))) (de_var 1))))⟩
abbrev s__law_room : Stmt := topS 60
theorem sc__law_room : FnScope ["sorts", "pair", "grains", "found", "sort", "width", "cap"] ["sorts", "pair", "grains"] (defScope s__law_room) := ⟨rfl, rfl, rfl, by decide +kernel, rfl, by decide +kernel, by decide +kernel⟩
def l1__law_room (K : PySem.W.Frag) : SW := wFor (wSeq (wVar 1)) (wName 4) (wSq (wAsg (wOp gIx (wVar 0) (wVar 4)) (wTupT 2 (wConsT (wName 5) (wConsT (wName 6) wNilT))))
  (wIfS (wB (wOp gGtI (wVar 5) (wC (.int 0)))) (wAsg (wOp gAddI (wVar 3) (wOp gMulA (wVar 6) (wOp gDivW (wVar 2) (wVar 5)))) (wName 3)) wNext))
def w__law_room (K : PySem.W.Frag) : SW := (wSq (wAsg (wC (.int 0)) (wName 3))
  (wSq (l1__law_room K)
  (wRet (wVar 3))))
def fs__law_room (K : PySem.W.Frag) : FS := fun cs q _ => ∃ (ss : List So) (p : Jo) (g : Int) (s t : So), cs = [.dat (sosD ss), .dat (joD p), .dat (.int g)] ∧ ss[p.1]? = some s ∧ ss[p.2]? = some t ∧ (∀ s ∈ ss, 0 ≤ s.1 ∧ s.1 ≤ 12 ∧ 1 ≤ s.2 ∧ s.2 ≤ 6) ∧
  q (.int (partI g s + partI g t)) cs
/-- what each of the two adds -/
def roomAt (g : Int) (s t : So) : Nat → Int
  | 0 => 0
  | 1 => partI g s
  | _ => partI g s + partI g t
theorem l1__law_room_ok {ss : List So} {p : Jo} {g : Int} {s t : So} {c4 c5 c6 : Cell} {E : EndsD} (h1 : ss[p.1]? = some s) (h2 : ss[p.2]? = some t) (hs : ∀ s ∈ ss, 0 ≤ s.1 ∧ s.1 ≤ 12 ∧ 1 ≤ s.2 ∧ s.2 ≤ 6)
    (hn : ∀ c4 c5 c6, E.nx [.dat (sosD ss), .dat (joD p), .dat (.int g), .dat (.int (partI g s + partI g t)), c4, c5, c6]) : l1__law_room K E [.dat (sosD ss), .dat (joD p), .dat (.int g), .dat (.int 0), c4, c5, c6] := by
  unfold l1__law_room wFor
  simp only [joD, seqD_t, gIsB, gNotB, D.adr.injEq, Cont.pool.injEq, ixN31, ne_eq, List.map_cons, List.map_nil, wPoolOpen, wPoolClose, wPop0, wPopTo, wListOwn, wRemove, wRaise0, wRaise1, wAugOwn, wEnumL, wTru, wSlA, gCatA, gLtT, gLeT, wFrz, wChain3, wAttr, wMkF, wEnumT, wRevT, wDict0, wDict1, numD3, Nat.reduceAdd, atI0, atI1, atI2, atI3, atI4, ixN51, ixN52, ixN53, List.length_map, wNever, scal, V.int.injEq, V.str.injEq, V.bl.injEq, wSq, wNext, wBreak, wCont, wDrop, wRet, wRetN, wIfS, wAsg, wPar, wLstOwn, wAppend, wSetOwn, wIxOwn, wPeek, wRetOwn, wRetFr, wFor, wB, wNot, wAnd, wOr, wAndV, wOrV, wNotV, wIf, wChain, wNil, wCons, wCB, wTup, wLst, wNoPart, wPart, wSlT, wSlL, wSeq, wRng1, wRng2, wZip, wName, wNilT, wConsT, wTupT, wYes, wNeg, wVar, wC, wOp, wcNil, wcCons, wcOwn, wCall, wCallOwn, slots, cellsOf, OwnArgs, putBack, g2I, g2IC, gLen, gAbs, gGcd, gInt1, gTupleOf, gListOf, gIx, gCatT, gCat, gEq, gNe, gIsN, gNotN, scD, seqD_t, seqD_l, seqD_f, isNonD, List.nodup_cons, List.mem_cons, List.not_mem_nil, or_false, not_false_eq_true, Nat.reduceEqDiff, L3.Keeps, ends, wipeD, List.replicate, List.cons_append, List.nil_append, List.append_nil, List.getElem?_cons_zero, List.getElem?_cons_succ, List.set_cons_zero, List.set_cons_succ, List.getD_cons_zero, List.getD_cons_succ, List.length_cons, List.length_nil, List.nodup_nil, Option.some.injEq, Cell.dat.injEq, Cell.own.injEq, Cont.lst.injEq, D.bl.injEq, D.int.injEq, D.str.injEq, D.tup.injEq, D.lst.injEq, Arg.d.injEq, List.cons.injEq, exists_and_left, exists_and_right, exists_eq_left', exists_eq_left, exists_eq_right, exists_eq_right', exists_eq, exists_eq', and_true, true_and, and_assoc, and_self, exists_const, reduceCtorEq]
  refine ⟨fun i τ => ∃ c4 c5 c6, τ = [.dat (sosD ss), .dat (joD p), .dat (.int g), .dat (.int (roomAt g s t i)), c4, c5, c6], ⟨_, _, _, rfl⟩, ?_, ?_⟩
  · rintro i d τ2 hi ⟨c4, c5, c6, rfl⟩
    obtain ⟨k, u, rfl, hk, hr⟩ : ∃ (k : Nat) (u : So), d = .int k ∧ ss[k]? = some u ∧ roomAt g s t (i + 1) = roomAt g s t i + partI g u := by
      match i, hi with
      | 0, hi => cases hi; exact ⟨_, s, rfl, h1, by simp [roomAt]⟩
      | 1, hi => cases hi; exact ⟨_, t, rfl, h2, by simp [roomAt]⟩
      | i + 2, hi => simp at hi
    have hb := hs u (List.mem_of_getElem? hk)
    simp only [sosD, seqD_t, at_map hk, wTupT, wConsT, soD, atI0, atI1, gIsB, gNotB, D.adr.injEq, Cont.pool.injEq, ixN31, ne_eq, List.map_cons, List.map_nil, wPoolOpen, wPoolClose, wPop0, wPopTo, wListOwn, wRemove, wRaise0, wRaise1, wAugOwn, wEnumL, wTru, wSlA, gCatA, gLtT, gLeT, wFrz, wChain3, wAttr, wMkF, wEnumT, wRevT, wDict0, wDict1, numD3, Nat.reduceAdd, atI0, atI1, atI2, atI3, atI4, ixN51, ixN52, ixN53, List.length_map, wNever, scal, V.int.injEq, V.str.injEq, V.bl.injEq, wSq, wNext, wBreak, wCont, wDrop, wRet, wRetN, wIfS, wAsg, wPar, wLstOwn, wAppend, wSetOwn, wIxOwn, wPeek, wRetOwn, wRetFr, wFor, wB, wNot, wAnd, wOr, wAndV, wOrV, wNotV, wIf, wChain, wNil, wCons, wCB, wTup, wLst, wNoPart, wPart, wSlT, wSlL, wSeq, wRng1, wRng2, wZip, wName, wNilT, wConsT, wTupT, wYes, wNeg, wVar, wC, wOp, wcNil, wcCons, wcOwn, wCall, wCallOwn, slots, cellsOf, OwnArgs, putBack, g2I, g2IC, gLen, gAbs, gGcd, gInt1, gTupleOf, gListOf, gIx, gCatT, gCat, gEq, gNe, gIsN, gNotN, scD, seqD_t, seqD_l, seqD_f, isNonD, List.nodup_cons, List.mem_cons, List.not_mem_nil, or_false, not_false_eq_true, Nat.reduceEqDiff, L3.Keeps, ends, wipeD, List.replicate, List.cons_append, List.nil_append, List.append_nil, List.getElem?_cons_zero, List.getElem?_cons_succ, List.set_cons_zero, List.set_cons_succ, List.getD_cons_zero, List.getD_cons_succ, List.length_cons, List.length_nil, List.nodup_nil, Option.some.injEq, Cell.dat.injEq, Cell.own.injEq, Cont.lst.injEq, D.bl.injEq, D.int.injEq, D.str.injEq, D.tup.injEq, D.lst.injEq, Arg.d.injEq, List.cons.injEq, exists_and_left, exists_and_right, exists_eq_left', exists_eq_left, exists_eq_right, exists_eq_right', exists_eq, exists_eq', and_true, true_and, and_assoc, and_self, exists_const, reduceCtorEq]
    refine ⟨fun z => ?_, fun z => ?_⟩
    · have z := of_decide_eq_true z
      refine ⟨divw z (by omega), cmul_l (by omega) (by omega), ?_⟩
      rw [hr]
      unfold partI
      rw [if_pos z]
    · have z := of_decide_eq_false z
      rw [hr]
      unfold partI
      rw [if_neg z]
      simp
  · rintro τ2 ⟨c4, c5, c6, rfl⟩
    exact hn c4 c5 c6
theorem pure__law_room : PureD 3 4 (fs__law_room K) (w__law_room K) := by
  rintro cs q e - ⟨ss, p, g, s, t, rfl, h1, h2, hs, hq⟩
  simp only [w__law_room, gIsB, gNotB, D.adr.injEq, Cont.pool.injEq, ixN31, ne_eq, List.map_cons, List.map_nil, wPoolOpen, wPoolClose, wPop0, wPopTo, wListOwn, wRemove, wRaise0, wRaise1, wAugOwn, wEnumL, wTru, wSlA, gCatA, gLtT, gLeT, wFrz, wChain3, wAttr, wMkF, wEnumT, wRevT, wDict0, wDict1, numD3, Nat.reduceAdd, atI0, atI1, atI2, atI3, atI4, ixN51, ixN52, ixN53, List.length_map, wNever, scal, V.int.injEq, V.str.injEq, V.bl.injEq, wSq, wNext, wBreak, wCont, wDrop, wRet, wRetN, wIfS, wAsg, wPar, wLstOwn, wAppend, wSetOwn, wIxOwn, wPeek, wRetOwn, wRetFr, wFor, wB, wNot, wAnd, wOr, wAndV, wOrV, wNotV, wIf, wChain, wNil, wCons, wCB, wTup, wLst, wNoPart, wPart, wSlT, wSlL, wSeq, wRng1, wRng2, wZip, wName, wNilT, wConsT, wTupT, wYes, wNeg, wVar, wC, wOp, wcNil, wcCons, wcOwn, wCall, wCallOwn, slots, cellsOf, OwnArgs, putBack, g2I, g2IC, gLen, gAbs, gGcd, gInt1, gTupleOf, gListOf, gIx, gCatT, gCat, gEq, gNe, gIsN, gNotN, scD, seqD_t, seqD_l, seqD_f, isNonD, List.nodup_cons, List.mem_cons, List.not_mem_nil, or_false, not_false_eq_true, Nat.reduceEqDiff, L3.Keeps, ends, wipeD, List.replicate, List.cons_append, List.nil_append, List.append_nil, List.getElem?_cons_zero, List.getElem?_cons_succ, List.set_cons_zero, List.set_cons_succ, List.getD_cons_zero, List.getD_cons_succ, List.length_cons, List.length_nil, List.nodup_nil, Option.some.injEq, Cell.dat.injEq, Cell.own.injEq, Cont.lst.injEq, D.bl.injEq, D.int.injEq, D.str.injEq, D.tup.injEq, D.lst.injEq, Arg.d.injEq, List.cons.injEq, exists_and_left, exists_and_right, exists_eq_left', exists_eq_left, exists_eq_right, exists_eq_right', exists_eq, exists_eq', and_true, true_and, and_assoc, and_self, exists_const, reduceCtorEq]
  refine l1__law_room_ok h1 h2 hs fun _ _ _ => ?_
  simp only [gIsB, gNotB, D.adr.injEq, Cont.pool.injEq, ixN31, ne_eq, List.map_cons, List.map_nil, wPoolOpen, wPoolClose, wPop0, wPopTo, wListOwn, wRemove, wRaise0, wRaise1, wAugOwn, wEnumL, wTru, wSlA, gCatA, gLtT, gLeT, wFrz, wChain3, wAttr, wMkF, wEnumT, wRevT, wDict0, wDict1, numD3, Nat.reduceAdd, atI0, atI1, atI2, atI3, atI4, ixN51, ixN52, ixN53, List.length_map, wNever, scal, V.int.injEq, V.str.injEq, V.bl.injEq, wSq, wNext, wBreak, wCont, wDrop, wRet, wRetN, wIfS, wAsg, wPar, wLstOwn, wAppend, wSetOwn, wIxOwn, wPeek, wRetOwn, wRetFr, wFor, wB, wNot, wAnd, wOr, wAndV, wOrV, wNotV, wIf, wChain, wNil, wCons, wCB, wTup, wLst, wNoPart, wPart, wSlT, wSlL, wSeq, wRng1, wRng2, wZip, wName, wNilT, wConsT, wTupT, wYes, wNeg, wVar, wC, wOp, wcNil, wcCons, wcOwn, wCall, wCallOwn, slots, cellsOf, OwnArgs, putBack, g2I, g2IC, gLen, gAbs, gGcd, gInt1, gTupleOf, gListOf, gIx, gCatT, gCat, gEq, gNe, gIsN, gNotN, scD, seqD_t, seqD_l, seqD_f, isNonD, List.nodup_cons, List.mem_cons, List.not_mem_nil, or_false, not_false_eq_true, Nat.reduceEqDiff, L3.Keeps, ends, wipeD, List.replicate, List.cons_append, List.nil_append, List.append_nil, List.getElem?_cons_zero, List.getElem?_cons_succ, List.set_cons_zero, List.set_cons_succ, List.getD_cons_zero, List.getD_cons_succ, List.length_cons, List.length_nil, List.nodup_nil, Option.some.injEq, Cell.dat.injEq, Cell.own.injEq, Cont.lst.injEq, D.bl.injEq, D.int.injEq, D.str.injEq, D.tup.injEq, D.lst.injEq, Arg.d.injEq, List.cons.injEq, exists_and_left, exists_and_right, exists_eq_left', exists_eq_left, exists_eq_right, exists_eq_right', exists_eq, exists_eq', and_true, true_and, and_assoc, and_self, exists_const, reduceCtorEq]
  exact hq
theorem ok__law_room (T : Txt K mg) : FnOk P w K mg base (L2.CX P w) 1 T.f__law_room T.fd__law_room ["sorts", "pair", "grains"] (spOf K 3 (fs__law_room K)) := by
  refine def_ok T.F__law_room sc__law_room (wb := w__law_room K) pure__law_room ?_
  intro cdv A outer s H E hr tk
  exact ⟨_, (pss_cons (ps_set (i := 3) sc__law_room.nd rfl (by first | exact Or.inl rfl | exact Or.inr rfl) pe_int)
      (pss_cons (ps_for (passes_of rfl) rfl (pi_seq (pv 1)) (pg_name (i := 4) sc__law_room.nd rfl (by first | exact Or.inl rfl | exact Or.inr rfl))
        (pss_cons (ps_asg (pe_ix ix_seq (pv 0) (pv 4) (fun _ _ => rfl)) (pg_tup (by rfl) (pgs_cons (pg_name (i := 5) sc__law_room.nd rfl (by first | exact Or.inl rfl | exact Or.inr rfl)) (pgs_cons (pg_name (i := 6) sc__law_room.nd rfl (by first | exact Or.inl rfl | exact Or.inr rfl)) pgs_nil))))
      (pss_one (ps_if (pt_cmpR op_gt (pv 5) pe_int (nomark _))
        (pss_one (ps_set (i := 3) sc__law_room.nd rfl (by first | exact Or.inl rfl | exact Or.inr rfl) (pe_op op_add (pv 3) (pe_op op_mulA (pv 6) (pe_op op_fdivW (pv 2) (pv 5))))))
        pss_nil))))
      (pss_one (ps_ret (pv 3))))),
    (ds_seq (ds_asg de_int (dg_name 3))
      (ds_seq (ds_for (wI := (wSeq (wVar 1))) (wg := (wName 4)) (wb := (wSq (wAsg (wOp gIx (wVar 0) (wVar 4)) (wTupT 2 (wConsT (wName 5) (wConsT (wName 6) wNilT))))
  (wIfS (wB (wOp gGtI (wVar 5) (wC (.int 0)))) (wAsg (wOp gAddI (wVar 3) (wOp gMulA (wVar 6) (wOp gDivW (wVar 2) (wVar 5)))) (wName 3)) wNext))) (di_seq (de_var 1)) (dg_name 4) (ds_seq (ds_asg (de_op o_ix (de_var 0) (de_var 4)) (dg_tup (n := 2) (dgs_cons (dg_name 5) (dgs_cons (dg_name 6) dgs_nil))))
      (ds_if (dt_B (de_op o_gt (de_var 5) de_int)) (ds_asg (de_op o_add (de_var 3) (de_op o_mulA (de_var 6) (de_op o_fdivW (de_var 2) (de_var 5)))) (dg_name 3)) ds_nil)))
      (ds_ret (de_var 3))))⟩
abbrev s__law_ascending : Stmt := topS 61
theorem sc__law_ascending : FnScope ["steps", "left", "found", "least", "step"] ["steps"] (defScope s__law_ascending) := ⟨rfl, rfl, rfl, by decide +kernel, rfl, by decide +kernel, by decide +kernel⟩
def l1__law_ascending (K : PySem.W.Frag) : SW := wForOwn 1 (wName 4) (wIfS (wB (wOp gLtI (wOp gMulA (wOp gIx (wVar 4) (wC (.int 0))) (wOp gIx (wVar 3) (wC (.int 1)))) (wOp gMulA (wOp gIx (wVar 3) (wC (.int 0))) (wOp gIx (wVar 4) (wC (.int 1)))))) (wAsg (wVar 4) (wName 3)) wNext)
def l2__law_ascending (K : PySem.W.Frag) : SW := wWhile (wB (wOp gGtI (wPeek 1 (fun es q => q (.int es.length))) (wC (.int 0)))) (wSq (wAsg (wIxOwn 1 (wC (.int 0))) (wName 3))
  (wSq (l1__law_ascending K)
  (wSq (wRemove 1 (wCons (wVar 3) wNil))
  (wAppend 2 (wCons (wVar 3) wNil)))))
def w__law_ascending (K : PySem.W.Frag) : SW := (wSq (wListOwn 1 (wCons (wVar 0) wNil))
  (wSq (wLstOwn 2 wNil)
  (wSq (l2__law_ascending K)
  (wRet (wPeek 2 (fun es q => q (.tup es)))))))
def fs__law_ascending (K : PySem.W.Frag) : FS := fun cs q _ => ∃ (d : D) (ts : List Th), cs = [.dat d] ∧ seqD d = some (ts.map thD) ∧ ts.length ≤ 900 ∧ (∀ t ∈ ts, ThOk t) ∧ ∀ us : List Th, us.Perm ts → us.Pairwise leT → q (stD us) cs
def InvLe (c0 : Cell) (p1 p2 : Addr) (xs ys : List Th) (k : Nat) (τ : List Cell) : Prop := ∃ b c4, b ∈ xs ∧ (∀ x ∈ xs.take k, leT b x) ∧ τ = [c0, .own p1 (.lst (xs.map thD)), .own p2 (.lst (ys.map thD)), .dat (thD b), c4]
theorem l1__law_ascending_ok {c0 : Cell} {p1 p2 : Addr} {xs ys : List Th} {b0 : Th} {c4 : Cell} {E : EndsD} (hx : ∀ t ∈ xs, ThOk t) (hb0 : b0 ∈ xs)
    (hn : ∀ b c4, b ∈ xs → (∀ x ∈ xs, leT b x) → E.nx [c0, .own p1 (.lst (xs.map thD)), .own p2 (.lst (ys.map thD)), .dat (thD b), c4]) :
    l1__law_ascending K E [c0, .own p1 (.lst (xs.map thD)), .own p2 (.lst (ys.map thD)), .dat (thD b0), c4] := by
  unfold l1__law_ascending wForOwn
  refine ⟨p1, xs.map thD, rfl, InvLe c0 p1 p2 xs ys, ⟨b0, c4, hb0, by simp, rfl⟩, ?_, ?_⟩
  · rintro k d τ2 hk ⟨b, c4, hb, hm, rfl⟩
    refine ⟨rfl, ?_⟩
    rw [List.getElem?_map] at hk
    obtain ⟨x, ex, rfl⟩ := Option.map_eq_some_iff.mp hk
    have mx : x ∈ xs := List.mem_of_getElem? ex
    have tk : xs.take (k + 1) = xs.take k ++ [x] := by rw [List.take_add_one, ex]; rfl
    have bx := (hx x mx).b
    have bb := (hx b hb).b
    simp only [thD, seqD_t, atI0, atI1, gIsB, gNotB, D.adr.injEq, Cont.pool.injEq, ixN31, ne_eq, List.map_cons, List.map_nil, wPoolOpen, wPoolClose, wPop0, wPopTo, wListOwn, wRemove, wRaise0, wRaise1, wAugOwn, wEnumL, wTru, wSlA, gCatA, gLtT, gLeT, wFrz, wChain3, wAttr, wMkF, wEnumT, wRevT, wDict0, wDict1, numD3, Nat.reduceAdd, atI0, atI1, atI2, atI3, atI4, ixN51, ixN52, ixN53, List.length_map, wNever, scal, V.int.injEq, V.str.injEq, V.bl.injEq, wSq, wNext, wBreak, wCont, wDrop, wRet, wRetN, wIfS, wAsg, wPar, wLstOwn, wAppend, wSetOwn, wIxOwn, wPeek, wRetOwn, wRetFr, wFor, wB, wNot, wAnd, wOr, wAndV, wOrV, wNotV, wIf, wChain, wNil, wCons, wCB, wTup, wLst, wNoPart, wPart, wSlT, wSlL, wSeq, wRng1, wRng2, wZip, wName, wNilT, wConsT, wTupT, wYes, wNeg, wVar, wC, wOp, wcNil, wcCons, wcOwn, wCall, wCallOwn, slots, cellsOf, OwnArgs, putBack, g2I, g2IC, gLen, gAbs, gGcd, gInt1, gTupleOf, gListOf, gIx, gCatT, gCat, gEq, gNe, gIsN, gNotN, scD, seqD_t, seqD_l, seqD_f, isNonD, List.nodup_cons, List.mem_cons, List.not_mem_nil, or_false, not_false_eq_true, Nat.reduceEqDiff, L3.Keeps, ends, wipeD, List.replicate, List.cons_append, List.nil_append, List.append_nil, List.getElem?_cons_zero, List.getElem?_cons_succ, List.set_cons_zero, List.set_cons_succ, List.getD_cons_zero, List.getD_cons_succ, List.length_cons, List.length_nil, List.nodup_nil, Option.some.injEq, Cell.dat.injEq, Cell.own.injEq, Cont.lst.injEq, D.bl.injEq, D.int.injEq, D.str.injEq, D.tup.injEq, D.lst.injEq, Arg.d.injEq, List.cons.injEq, exists_and_left, exists_and_right, exists_eq_left', exists_eq_left, exists_eq_right, exists_eq_right', exists_eq, exists_eq', and_true, true_and, and_assoc, and_self, exists_const, reduceCtorEq]
    refine ⟨cmul_l (by omega) (by omega), cmul_l (by omega) (by omega), fun z => ?_, fun z => ?_⟩
    · have z := of_decide_eq_true z
      refine ⟨x, _, mx, fun y hy => ?_, rfl⟩
      rw [tk] at hy
      rcases List.mem_append.mp hy with hy | hy
      · exact leT_trans (by omega) (by omega) (by have := (hx y (List.mem_of_mem_take hy)).b; omega) (Int.le_of_lt z) (hm y hy)
      · have : y = x := by simpa using hy
        rw [this]
        exact leT_refl
    · have z := of_decide_eq_false z
      refine ⟨b, _, hb, fun y hy => ?_, rfl⟩
      rw [tk] at hy
      rcases List.mem_append.mp hy with hy | hy
      · exact hm y hy
      · have : y = x := by simpa using hy
        rw [this]
        exact Int.not_lt.mp z
  · rintro τ2 ⟨b, c4, hb, hm, rfl⟩
    refine ⟨rfl, hn b c4 hb ?_⟩
    rw [List.length_map, List.take_length] at hm
    exact hm
theorem perm_erase {α : Type} : ∀ {l : List α} {j : Nat} (h : j < l.length), (l[j] :: l.eraseIdx j).Perm l
  | x :: l, 0, _ => .refl _
  | x :: l, j + 1, h => by
    have h' : j < l.length := by simpa using h
    exact (List.Perm.swap x (l[j]'h') _).trans ((perm_erase h').cons x)
theorem eraseIdx_map {α β : Type} {f : α → β} : ∀ (l : List α) (j : Nat), (l.eraseIdx j).map f = (l.map f).eraseIdx j
  | [], _ => rfl
  | _ :: _, 0 => rfl
  | x :: l, j + 1 => by
    show f x :: (l.eraseIdx j).map f = f x :: (l.map f).eraseIdx j
    rw [eraseIdx_map l j]
def InvAs (c0 : Cell) (p1 p2 : Addr) (ts : List Th) (m : Nat) (τ : List Cell) : Prop := ∃ (xs ys : List Th) (c3 c4 : Cell), τ = [c0, .own p1 (.lst (xs.map thD)), .own p2 (.lst (ys.map thD)), c3, c4] ∧ (ys ++ xs).Perm ts ∧ ys.Pairwise leT ∧ (∀ y ∈ ys, ∀ x ∈ xs, leT y x) ∧ m = xs.length
theorem l2__law_ascending_ok {c0 c3 c4 : Cell} {p1 p2 : Addr} {ts : List Th} {E : EndsD} (hl : ts.length ≤ 900) (ht : ∀ t ∈ ts, ThOk t)
    (hn : ∀ (us : List Th) c3 c4, us.Perm ts → us.Pairwise leT → E.nx [c0, .own p1 (.lst []), .own p2 (.lst (us.map thD)), c3, c4]) :
    l2__law_ascending K E [c0, .own p1 (.lst (ts.map thD)), .own p2 (.lst []), c3, c4] := by
  unfold l2__law_ascending wWhile
  refine ⟨InvAs c0 p1 p2 ts, ⟨_, ts, [], c3, c4, rfl, .refl _, .nil, by simp, rfl⟩, ?_⟩
  rintro m τ ⟨xs, ys, c3, c4, rfl, hp, hs, hy, rfl⟩
  have hx : ∀ t ∈ xs, ThOk t := fun t h => ht t (hp.mem_iff.mp (List.mem_append_right _ h))
  have hyl : ys.length ≤ 900 := by have := hp.length_eq; rw [List.length_append] at this; omega
  cases xs with
  | nil =>
    simp only [gIsB, gNotB, D.adr.injEq, Cont.pool.injEq, ixN31, ne_eq, List.map_cons, List.map_nil, wPoolOpen, wPoolClose, wPop0, wPopTo, wListOwn, wRemove, wRaise0, wRaise1, wAugOwn, wEnumL, wTru, wSlA, gCatA, gLtT, gLeT, wFrz, wChain3, wAttr, wMkF, wEnumT, wRevT, wDict0, wDict1, numD3, Nat.reduceAdd, atI0, atI1, atI2, atI3, atI4, ixN51, ixN52, ixN53, List.length_map, wNever, scal, V.int.injEq, V.str.injEq, V.bl.injEq, wSq, wNext, wBreak, wCont, wDrop, wRet, wRetN, wIfS, wAsg, wPar, wLstOwn, wAppend, wSetOwn, wIxOwn, wPeek, wRetOwn, wRetFr, wFor, wB, wNot, wAnd, wOr, wAndV, wOrV, wNotV, wIf, wChain, wNil, wCons, wCB, wTup, wLst, wNoPart, wPart, wSlT, wSlL, wSeq, wRng1, wRng2, wZip, wName, wNilT, wConsT, wTupT, wYes, wNeg, wVar, wC, wOp, wcNil, wcCons, wcOwn, wCall, wCallOwn, slots, cellsOf, OwnArgs, putBack, g2I, g2IC, gLen, gAbs, gGcd, gInt1, gTupleOf, gListOf, gIx, gCatT, gCat, gEq, gNe, gIsN, gNotN, scD, seqD_t, seqD_l, seqD_f, isNonD, List.nodup_cons, List.mem_cons, List.not_mem_nil, or_false, not_false_eq_true, Nat.reduceEqDiff, L3.Keeps, ends, wipeD, List.replicate, List.cons_append, List.nil_append, List.append_nil, List.getElem?_cons_zero, List.getElem?_cons_succ, List.set_cons_zero, List.set_cons_succ, List.getD_cons_zero, List.getD_cons_succ, List.length_cons, List.length_nil, List.nodup_nil, Option.some.injEq, Cell.dat.injEq, Cell.own.injEq, Cont.lst.injEq, D.bl.injEq, D.int.injEq, D.str.injEq, D.tup.injEq, D.lst.injEq, Arg.d.injEq, List.cons.injEq, exists_and_left, exists_and_right, exists_eq_left', exists_eq_left, exists_eq_right, exists_eq_right', exists_eq, exists_eq', and_true, true_and, and_assoc, and_self, exists_const, reduceCtorEq]
    refine ⟨fun z => by simp at z, fun _ => ?_⟩
    rw [List.append_nil] at hp
    exact hn ys c3 c4 hp hs
  | cons x0 xr =>
    simp only [gIsB, gNotB, D.adr.injEq, Cont.pool.injEq, ixN31, ne_eq, List.map_cons, List.map_nil, wPoolOpen, wPoolClose, wPop0, wPopTo, wListOwn, wRemove, wRaise0, wRaise1, wAugOwn, wEnumL, wTru, wSlA, gCatA, gLtT, gLeT, wFrz, wChain3, wAttr, wMkF, wEnumT, wRevT, wDict0, wDict1, numD3, Nat.reduceAdd, atI0, atI1, atI2, atI3, atI4, ixN51, ixN52, ixN53, List.length_map, wNever, scal, V.int.injEq, V.str.injEq, V.bl.injEq, wSq, wNext, wBreak, wCont, wDrop, wRet, wRetN, wIfS, wAsg, wPar, wLstOwn, wAppend, wSetOwn, wIxOwn, wPeek, wRetOwn, wRetFr, wFor, wB, wNot, wAnd, wOr, wAndV, wOrV, wNotV, wIf, wChain, wNil, wCons, wCB, wTup, wLst, wNoPart, wPart, wSlT, wSlL, wSeq, wRng1, wRng2, wZip, wName, wNilT, wConsT, wTupT, wYes, wNeg, wVar, wC, wOp, wcNil, wcCons, wcOwn, wCall, wCallOwn, slots, cellsOf, OwnArgs, putBack, g2I, g2IC, gLen, gAbs, gGcd, gInt1, gTupleOf, gListOf, gIx, gCatT, gCat, gEq, gNe, gIsN, gNotN, scD, seqD_t, seqD_l, seqD_f, isNonD, List.nodup_cons, List.mem_cons, List.not_mem_nil, or_false, not_false_eq_true, Nat.reduceEqDiff, L3.Keeps, ends, wipeD, List.replicate, List.cons_append, List.nil_append, List.append_nil, List.getElem?_cons_zero, List.getElem?_cons_succ, List.set_cons_zero, List.set_cons_succ, List.getD_cons_zero, List.getD_cons_succ, List.length_cons, List.length_nil, List.nodup_nil, Option.some.injEq, Cell.dat.injEq, Cell.own.injEq, Cont.lst.injEq, D.bl.injEq, D.int.injEq, D.str.injEq, D.tup.injEq, D.lst.injEq, Arg.d.injEq, List.cons.injEq, exists_and_left, exists_and_right, exists_eq_left', exists_eq_left, exists_eq_right, exists_eq_right', exists_eq, exists_eq', and_true, true_and, and_assoc, and_self, exists_const, reduceCtorEq]
    refine ⟨fun _ => ?_, fun z => by simp at z⟩
    refine l1__law_ascending_ok (xs := x0 :: xr) hx (by simp) fun b c4 hb hm => ?_
    obtain ⟨j, hj, ej⟩ := th_place hb
    have jl := (List.getElem?_eq_some_iff.mp ej).1
    have eb : (x0 :: xr)[j] = b := Option.some.inj ((List.getElem?_eq_getElem jl).symm.trans ej)
    have pr : (b :: (x0 :: xr).eraseIdx j).Perm (x0 :: xr) := by
      rw [← eb]
      exact perm_erase jl
    simp only [gIsB, gNotB, D.adr.injEq, Cont.pool.injEq, ixN31, ne_eq, List.map_cons, List.map_nil, wPoolOpen, wPoolClose, wPop0, wPopTo, wListOwn, wRemove, wRaise0, wRaise1, wAugOwn, wEnumL, wTru, wSlA, gCatA, gLtT, gLeT, wFrz, wChain3, wAttr, wMkF, wEnumT, wRevT, wDict0, wDict1, numD3, Nat.reduceAdd, atI0, atI1, atI2, atI3, atI4, ixN51, ixN52, ixN53, List.length_map, wNever, scal, V.int.injEq, V.str.injEq, V.bl.injEq, wSq, wNext, wBreak, wCont, wDrop, wRet, wRetN, wIfS, wAsg, wPar, wLstOwn, wAppend, wSetOwn, wIxOwn, wPeek, wRetOwn, wRetFr, wFor, wB, wNot, wAnd, wOr, wAndV, wOrV, wNotV, wIf, wChain, wNil, wCons, wCB, wTup, wLst, wNoPart, wPart, wSlT, wSlL, wSeq, wRng1, wRng2, wZip, wName, wNilT, wConsT, wTupT, wYes, wNeg, wVar, wC, wOp, wcNil, wcCons, wcOwn, wCall, wCallOwn, slots, cellsOf, OwnArgs, putBack, g2I, g2IC, gLen, gAbs, gGcd, gInt1, gTupleOf, gListOf, gIx, gCatT, gCat, gEq, gNe, gIsN, gNotN, scD, seqD_t, seqD_l, seqD_f, isNonD, List.nodup_cons, List.mem_cons, List.not_mem_nil, or_false, not_false_eq_true, Nat.reduceEqDiff, L3.Keeps, ends, wipeD, List.replicate, List.cons_append, List.nil_append, List.append_nil, List.getElem?_cons_zero, List.getElem?_cons_succ, List.set_cons_zero, List.set_cons_succ, List.getD_cons_zero, List.getD_cons_succ, List.length_cons, List.length_nil, List.nodup_nil, Option.some.injEq, Cell.dat.injEq, Cell.own.injEq, Cont.lst.injEq, D.bl.injEq, D.int.injEq, D.str.injEq, D.tup.injEq, D.lst.injEq, Arg.d.injEq, List.cons.injEq, exists_and_left, exists_and_right, exists_eq_left', exists_eq_left, exists_eq_right, exists_eq_right', exists_eq, exists_eq', and_true, true_and, and_assoc, and_self, exists_const, reduceCtorEq]
    refine ⟨_, pys_th (x0 :: xr), _, py_th b, sh_ths _, sh_th b, j, hj, by omega, ((x0 :: xr).eraseIdx j).length, ?_, (x0 :: xr).eraseIdx j, ys ++ [b], .dat (thD b), c4, ?_, ?_, ?_, ?_, rfl⟩
    · rw [List.length_eraseIdx_of_lt jl]
      simp
    · rw [List.map_append, eraseIdx_map]
      rfl
    · rw [List.append_assoc]
      exact (pr.append_left ys).trans hp
    · rw [List.pairwise_append]
      refine ⟨hs, by simp, fun y h z hz => ?_⟩
      have : z = b := by simpa using hz
      rw [this]
      exact hy y h b hb
    · intro y h z hz
      have mz : z ∈ x0 :: xr := pr.mem_iff.mp (List.mem_cons_of_mem _ hz)
      rcases List.mem_append.mp h with h | h
      · exact hy y h z mz
      · have : y = b := by simpa using h
        rw [this]
        exact hm z mz
theorem pure__law_ascending : PureD 1 4 (fs__law_ascending K) (w__law_ascending K) := by
  rintro cs q e - ⟨d, ts, rfl, hd, hl, ht, hq⟩
  simp only [w__law_ascending, hd, gIsB, gNotB, D.adr.injEq, Cont.pool.injEq, ixN31, ne_eq, List.map_cons, List.map_nil, wPoolOpen, wPoolClose, wPop0, wPopTo, wListOwn, wRemove, wRaise0, wRaise1, wAugOwn, wEnumL, wTru, wSlA, gCatA, gLtT, gLeT, wFrz, wChain3, wAttr, wMkF, wEnumT, wRevT, wDict0, wDict1, numD3, Nat.reduceAdd, atI0, atI1, atI2, atI3, atI4, ixN51, ixN52, ixN53, List.length_map, wNever, scal, V.int.injEq, V.str.injEq, V.bl.injEq, wSq, wNext, wBreak, wCont, wDrop, wRet, wRetN, wIfS, wAsg, wPar, wLstOwn, wAppend, wSetOwn, wIxOwn, wPeek, wRetOwn, wRetFr, wFor, wB, wNot, wAnd, wOr, wAndV, wOrV, wNotV, wIf, wChain, wNil, wCons, wCB, wTup, wLst, wNoPart, wPart, wSlT, wSlL, wSeq, wRng1, wRng2, wZip, wName, wNilT, wConsT, wTupT, wYes, wNeg, wVar, wC, wOp, wcNil, wcCons, wcOwn, wCall, wCallOwn, slots, cellsOf, OwnArgs, putBack, g2I, g2IC, gLen, gAbs, gGcd, gInt1, gTupleOf, gListOf, gIx, gCatT, gCat, gEq, gNe, gIsN, gNotN, scD, seqD_t, seqD_l, seqD_f, isNonD, List.nodup_cons, List.mem_cons, List.not_mem_nil, or_false, not_false_eq_true, Nat.reduceEqDiff, L3.Keeps, ends, wipeD, List.replicate, List.cons_append, List.nil_append, List.append_nil, List.getElem?_cons_zero, List.getElem?_cons_succ, List.set_cons_zero, List.set_cons_succ, List.getD_cons_zero, List.getD_cons_succ, List.length_cons, List.length_nil, List.nodup_nil, Option.some.injEq, Cell.dat.injEq, Cell.own.injEq, Cont.lst.injEq, D.bl.injEq, D.int.injEq, D.str.injEq, D.tup.injEq, D.lst.injEq, Arg.d.injEq, List.cons.injEq, exists_and_left, exists_and_right, exists_eq_left', exists_eq_left, exists_eq_right, exists_eq_right', exists_eq, exists_eq', and_true, true_and, and_assoc, and_self, exists_const, reduceCtorEq]
  refine fun p1 => ⟨by decide, fun p2 => ?_⟩
  refine l2__law_ascending_ok hl ht fun us c3 c4 hp hs => ?_
  simp only [gIsB, gNotB, D.adr.injEq, Cont.pool.injEq, ixN31, ne_eq, List.map_cons, List.map_nil, wPoolOpen, wPoolClose, wPop0, wPopTo, wListOwn, wRemove, wRaise0, wRaise1, wAugOwn, wEnumL, wTru, wSlA, gCatA, gLtT, gLeT, wFrz, wChain3, wAttr, wMkF, wEnumT, wRevT, wDict0, wDict1, numD3, Nat.reduceAdd, atI0, atI1, atI2, atI3, atI4, ixN51, ixN52, ixN53, List.length_map, wNever, scal, V.int.injEq, V.str.injEq, V.bl.injEq, wSq, wNext, wBreak, wCont, wDrop, wRet, wRetN, wIfS, wAsg, wPar, wLstOwn, wAppend, wSetOwn, wIxOwn, wPeek, wRetOwn, wRetFr, wFor, wB, wNot, wAnd, wOr, wAndV, wOrV, wNotV, wIf, wChain, wNil, wCons, wCB, wTup, wLst, wNoPart, wPart, wSlT, wSlL, wSeq, wRng1, wRng2, wZip, wName, wNilT, wConsT, wTupT, wYes, wNeg, wVar, wC, wOp, wcNil, wcCons, wcOwn, wCall, wCallOwn, slots, cellsOf, OwnArgs, putBack, g2I, g2IC, gLen, gAbs, gGcd, gInt1, gTupleOf, gListOf, gIx, gCatT, gCat, gEq, gNe, gIsN, gNotN, scD, seqD_t, seqD_l, seqD_f, isNonD, List.nodup_cons, List.mem_cons, List.not_mem_nil, or_false, not_false_eq_true, Nat.reduceEqDiff, L3.Keeps, ends, wipeD, List.replicate, List.cons_append, List.nil_append, List.append_nil, List.getElem?_cons_zero, List.getElem?_cons_succ, List.set_cons_zero, List.set_cons_succ, List.getD_cons_zero, List.getD_cons_succ, List.length_cons, List.length_nil, List.nodup_nil, Option.some.injEq, Cell.dat.injEq, Cell.own.injEq, Cont.lst.injEq, D.bl.injEq, D.int.injEq, D.str.injEq, D.tup.injEq, D.lst.injEq, Arg.d.injEq, List.cons.injEq, exists_and_left, exists_and_right, exists_eq_left', exists_eq_left, exists_eq_right, exists_eq_right', exists_eq, exists_eq', and_true, true_and, and_assoc, and_self, exists_const, reduceCtorEq]
  exact hq us hp hs
theorem ok__law_ascending (T : Txt K mg) : FnOk P w K mg base (L2.CX P w) 1 T.f__law_ascending T.fd__law_ascending ["steps"] (spOf K 1 (fs__law_ascending K)) := by
  refine def_ok T.F__law_ascending sc__law_ascending (wb := w__law_ascending K) pure__law_ascending ?_
  intro cdv A outer s H E hr tk
  exact ⟨_, (pss_cons (ps_set (i := 1) sc__law_ascending.nd rfl (by first | exact Or.inl rfl | exact Or.inr rfl) (pe_callTy call_list_of (by rfl) T.z_list (by decide +kernel) (pa_cons (pv 0) pa_nil)))
      (pss_cons (ps_set (i := 2) sc__law_ascending.nd rfl (by first | exact Or.inl rfl | exact Or.inr rfl) (pe_lst pa_nil))
      (pss_cons (ps_while (passes_of rfl) (pt_cmpR op_gt (pe_callB call_len_seq (by rfl) T.z_len (by decide +kernel) (pa_cons (pv 1) pa_nil)) pe_int (nomark _))
        (pss_cons (ps_set (i := 3) sc__law_ascending.nd rfl (by first | exact Or.inl rfl | exact Or.inr rfl) (pe_ix ix_seq (pv 1) pe_int (fun _ _ => rfl)))
      (pss_cons (ps_for (passes_of rfl) rfl (pi_seq (pv 1)) (pg_name (i := 4) sc__law_ascending.nd rfl (by first | exact Or.inl rfl | exact Or.inr rfl))
        (pss_one (ps_if (pt_cmpR op_lt (pe_op op_mulA (pe_ix ix_seq (pv 4) pe_int (fun _ _ => rfl)) (pe_ix ix_seq (pv 3) pe_int (fun _ _ => rfl))) (pe_op op_mulA (pe_ix ix_seq (pv 3) pe_int (fun _ _ => rfl)) (pe_ix ix_seq (pv 4) pe_int (fun _ _ => rfl))) (nomark _))
        (pss_one (ps_set (i := 3) sc__law_ascending.nd rfl (by first | exact Or.inl rfl | exact Or.inr rfl) (pv 4)))
        pss_nil)))
      (pss_cons (ps_expr (pe_bm PySem.F.plainAttrs_list PySem.F.slot_list_remove PySem.F.type_list_remove (mt_removeD (lt65 hr)) (pv 1) (pa_cons (pv 3) pa_nil)))
      (pss_one (ps_expr (pe_bm PySem.F.plainAttrs_list PySem.F.slot_list_append PySem.F.type_list_append mt_append (pv 2) (pa_cons (pv 3) pa_nil))))))))
      (pss_one (ps_ret (pe_callTy call_tuple_of (by rfl) T.z_tuple (by decide +kernel) (pa_cons (pv 2) pa_nil))))))),
    (ds_seq (ds_listOwn (i := 1) (da_cons (de_var 0) da_nil))
      (ds_seq (ds_lstOwn (i := 2) da_nil)
      (ds_seq (ds_while (wc := (wB (wOp gGtI (wPeek 1 (fun es q => q (.int es.length))) (wC (.int 0))))) (wb := (wSq (wAsg (wIxOwn 1 (wC (.int 0))) (wName 3))
  (wSq (l1__law_ascending K)
  (wSq (wRemove 1 (wCons (wVar 3) wNil))
  (wAppend 2 (wCons (wVar 3) wNil)))))) (dt_B (de_op o_gt (de_peek (i := 1) p_len) de_int)) (ds_seq (ds_asg (de_ixOwn (i := 1) de_int) (dg_name 3))
      (ds_seq (ds_forOwn (i := 1) (wg := (wName 4)) (wb := (wIfS (wB (wOp gLtI (wOp gMulA (wOp gIx (wVar 4) (wC (.int 0))) (wOp gIx (wVar 3) (wC (.int 1)))) (wOp gMulA (wOp gIx (wVar 3) (wC (.int 0))) (wOp gIx (wVar 4) (wC (.int 1)))))) (wAsg (wVar 4) (wName 3)) wNext)) (dg_name 4) (ds_if (dt_B (de_op o_lt (de_op o_mulA (de_op o_ix (de_var 4) de_int) (de_op o_ix (de_var 3) de_int)) (de_op o_mulA (de_op o_ix (de_var 3) de_int) (de_op o_ix (de_var 4) de_int)))) (ds_asg (de_var 4) (dg_name 3)) ds_nil))
      (ds_seq (ds_remove (i := 1) (da_cons (de_var 3) da_nil))
      (ds_append (i := 2) (da_cons (de_var 3) da_nil))))))
      (ds_ret (de_peek (i := 2) p_tupleOf)))))⟩
abbrev s__law_flag : Stmt := topS 62
theorem sc__law_flag : FnScope ["told", "due"] ["told", "due"] (defScope s__law_flag) := ⟨rfl, rfl, rfl, by decide +kernel, rfl, by decide +kernel, by decide +kernel⟩
def w__law_flag (K : PySem.W.Frag) : SW := (wRet (wAndV (wCB (gIsi K) (wCons (wVar 0) (wCons (wC (.ty "bool")) wNil))) (wOp gEqD (wVar 0) (wVar 1))))
def fs__law_flag (K : PySem.W.Frag) : FS := fun cs q _ => ∃ a b : Bool, cs = [.dat (.bl a), .dat (.bl b)] ∧ q (.bl (decide (a = b))) cs
theorem pure__law_flag : PureD 2 0 (fs__law_flag K) (w__law_flag K) := by
  rintro cs q e - ⟨a, b, rfl, hq⟩
  have ok : OkD K (.bl a) := by unfold OkD; trivial
  simp only [w__law_flag, gIsi_iff ok (show "bool" ∈ kinds by simp), isiD, gIsB, gNotB, D.adr.injEq, Cont.pool.injEq, ixN31, ne_eq, List.map_cons, List.map_nil, wPoolOpen, wPoolClose, wPop0, wPopTo, wListOwn, wRemove, wRaise0, wRaise1, wAugOwn, wEnumL, wTru, wSlA, gCatA, gLtT, gLeT, wFrz, wChain3, wAttr, wMkF, wEnumT, wRevT, wDict0, wDict1, numD3, Nat.reduceAdd, atI0, atI1, atI2, atI3, atI4, ixN51, ixN52, ixN53, List.length_map, wNever, scal, V.int.injEq, V.str.injEq, V.bl.injEq, wSq, wNext, wBreak, wCont, wDrop, wRet, wRetN, wIfS, wAsg, wPar, wLstOwn, wAppend, wSetOwn, wIxOwn, wPeek, wRetOwn, wRetFr, wFor, wB, wNot, wAnd, wOr, wAndV, wOrV, wNotV, wIf, wChain, wNil, wCons, wCB, wTup, wLst, wNoPart, wPart, wSlT, wSlL, wSeq, wRng1, wRng2, wZip, wName, wNilT, wConsT, wTupT, wYes, wNeg, wVar, wC, wOp, wcNil, wcCons, wcOwn, wCall, wCallOwn, slots, cellsOf, OwnArgs, putBack, g2I, g2IC, gLen, gAbs, gGcd, gInt1, gTupleOf, gListOf, gIx, gCatT, gCat, gEq, gNe, gIsN, gNotN, scD, seqD_t, seqD_l, seqD_f, isNonD, List.nodup_cons, List.mem_cons, List.not_mem_nil, or_false, not_false_eq_true, Nat.reduceEqDiff, L3.Keeps, ends, wipeD, List.replicate, List.cons_append, List.nil_append, List.append_nil, List.getElem?_cons_zero, List.getElem?_cons_succ, List.set_cons_zero, List.set_cons_succ, List.getD_cons_zero, List.getD_cons_succ, List.length_cons, List.length_nil, List.nodup_nil, Option.some.injEq, Cell.dat.injEq, Cell.own.injEq, Cont.lst.injEq, D.bl.injEq, D.int.injEq, D.str.injEq, D.tup.injEq, D.lst.injEq, Arg.d.injEq, List.cons.injEq, exists_and_left, exists_and_right, exists_eq_left', exists_eq_left, exists_eq_right, exists_eq_right', exists_eq, exists_eq', and_true, true_and, and_assoc, and_self, exists_const, reduceCtorEq]
  exact ⟨fun _ => ⟨.bool a, .bool b, rfl, rfl, by cases a <;> decide, by cases b <;> decide, by
    have e : PyData.eqv (.bool a) (.bool b) = decide (a = b) := by cases a <;> cases b <;> rfl
    rw [e]
    exact hq⟩, fun z => by simp at z⟩
theorem ok__law_flag (T : Txt K mg) : FnOk P w K mg base (L2.CX P w) 1 T.f__law_flag T.fd__law_flag ["told", "due"] (spOf K 2 (fs__law_flag K)) := by
  refine def_ok T.F__law_flag sc__law_flag (wb := w__law_flag K) pure__law_flag ?_
  intro cdv A outer s H E hr tk
  exact ⟨_, (pss_one (ps_ret (pe_and (pe_callB call_isi (by rfl) T.z_isinstance (by decide +kernel) (pa_cons (pv 0) (pa_cons (pe_bltn (v := .ty "bool") (by rfl) T.z_bool (by decide +kernel) rfl) pa_nil))) (pe_one (pe_cmpR (op_eqD hr.units) (pv 0) (pv 1) (nomark _)))))),
    (ds_ret (de_and (de_cb o_isi (da_cons (de_var 0) (da_cons de_ty da_nil))) (de_op o_eqD (de_var 0) (de_var 1))))⟩
abbrev s__law_one_right : Stmt := topS 63
theorem sc__law_one_right : FnScope ["pool", "cap", "many", "good", "number", "bad", "joins", "one", "other"] ["pool"] (defScope s__law_one_right) := ⟨rfl, rfl, rfl, by decide +kernel, rfl, by decide +kernel, by decide +kernel⟩
def c1__law_one_right (K : PySem.W.Frag) (Z : CT) : EW := wLc (wRng2 (wCons (wC (.int 1)) (wCons (wOp gAddI (wVar 2) (wC (.int 1))) wNil))) (wName 4) wYes (wTup (wCons (wOp gAddI (wOp gMulA (wVar 4) (wVar 1)) (wC (.int 1))) (wCons (wC (.int 1)) wNil))) [4]
def c2__law_one_right (K : PySem.W.Frag) (Z : CT) : EW := wLc (wRng2 (wCons (wC (.int 1)) (wCons (wOp gAddI (wVar 2) (wC (.int 1))) wNil))) (wName 4) wYes (wTup (wCons (wOp gMulA (wVar 4) (wVar 1)) (wCons (wC (.int 1)) wNil))) [4]
def t10__law_one_right (K : PySem.W.Frag) (Z : CT) : SW := (wRet (wCall 2 (fs__law_flag K) (wcCons (wCall 1 (fs_calm_singly K Z) (wcCons (wVar 8) wcNil)) (wcCons (wOp gGtI (wVar 1) (wC (.int 1))) wcNil))))
def t9__law_one_right (K : PySem.W.Frag) (Z : CT) : SW := (wSq (wIfS (wOr (wB (wOp gNotB (wCall 1 (fs_calm K Z) (wcCons (wVar 8) wcNil)) (wC (.bl false)))) (wB (wOp gNeD (wCall 1 (fs_breach K Z) (wcCons (wVar 8) wcNil)) (wTup (wCons (wC (.int 0)) (wCons (wTup (wCons (wC (.int 0)) (wCons (wC (.int 0)) wNil))) (wCons (wTup (wCons (wVar 1) (wCons (wC (.int 1)) wNil))) wNil))))))) (wRet (wC (.bl false))) wNext)
  (t10__law_one_right K Z))
def t8__law_one_right (K : PySem.W.Frag) (Z : CT) : SW := (wSq (wIfS (wOr (wB (wOp gNeD (wCall 1 (fs_loss K Z) (wcCons (wVar 7) wcNil)) (wTup (wCons (wC (.int 2)) (wCons (wC (.int 1)) wNil))))) (wB (wOp gNotB (wCall 1 (fs_calm_singly K Z) (wcCons (wVar 7) wcNil)) (wC (.bl true))))) (wRet (wC (.bl false))) wNext)
  (t9__law_one_right K Z))
def t7__law_one_right (K : PySem.W.Frag) (Z : CT) : SW := (wSq (wIfS (wOr (wB (wOp gNeD (wCall 3 (fs_room K Z) (wcCons (wVar 7) (wcCons (wC (.int 0)) (wcCons (wC (.int 0)) wcNil)))) (wTup (wCons (wOp gMulA (wC (.int 2)) (wVar 1)) (wCons (wC (.int 1)) wNil))))) (wOr (wB (wOp gNotB (wCall 1 (fs_calm K Z) (wcCons (wVar 7) wcNil)) (wC (.bl true)))) (wB (wOp gNotN (wCall 1 (fs_breach K Z) (wcCons (wVar 7) wcNil)) (wC .non))))) (wRet (wC (.bl false))) wNext)
  (t8__law_one_right K Z))
def t5__law_one_right (K : PySem.W.Frag) (Z : CT) : SW := (wSq (wAsg (wMkI Z.C_Book 2 (fs_Book__init__ K Z) (wCons (wTup (wCons (wTup (wCons (wC (.int 1)) (wCons (wVar 1) wNil))) wNil)) (wCons (wTup (wCons (wTup (wCons (wVar 3) (wCons (wVar 6) wNil))) wNil)) wNil))) (wName 7))
  (wSq (wAsg (wMkI Z.C_Book 2 (fs_Book__init__ K Z) (wCons (wTup (wCons (wTup (wCons (wC (.int 1)) (wCons (wVar 1) wNil))) wNil)) (wCons (wTup (wCons (wTup (wCons (wVar 5) (wCons (wVar 6) wNil))) wNil)) wNil))) (wName 8))
  (t7__law_one_right K Z)))
def t3__law_one_right (K : PySem.W.Frag) (Z : CT) : SW := (wSq (wAsg (wCB gTupleOf (wCons (c2__law_one_right K Z) wNil)) (wName 5))
  (wSq (wAsg (wTup (wCons (wTup (wCons (wC (.int 0)) (wCons (wC (.int 0)) wNil))) wNil)) (wName 6))
  (t5__law_one_right K Z)))
def t2__law_one_right (K : PySem.W.Frag) (Z : CT) : SW := (wSq (wAsg (wCB gTupleOf (wCons (c1__law_one_right K Z) wNil)) (wName 3))
  (t3__law_one_right K Z))
def w__law_one_right (K : PySem.W.Frag) (Z : CT) : SW := (wSq (wAsg (wOp gAddI (wC (.int 1)) (wCall 2 (fs__law_draw K) (wcOwn 0 (wcCons (wC (.int 6)) wcNil)))) (wName 1))
  (wSq (wAsg (wOp gAddI (wC (.int 1)) (wCall 2 (fs__law_draw K) (wcOwn 0 (wcCons (wC (.int 6)) wcNil)))) (wName 2))
  (t2__law_one_right K Z)))
theorem int_okd {i : Int} : OkD K (.int i) := by unfold OkD; trivial
theorem tup_okd {ds : List D} (h : ∀ d ∈ ds, OkD K d) : OkD K (.tup ds) := by unfold OkD; exact okDs_of h
theorem two_okd {i j : Int} : OkD K (.tup [.int i, .int j]) := tup_okd fun d hd => by
  have : d = .int i ∨ d = .int j := by simpa using hd
  rcases this with rfl | rfl <;> exact int_okd
theorem sos_okd {ss : List So} : OkD K (sosD ss) := tup_okd fun d hd => by
  obtain ⟨s, _, rfl⟩ := List.mem_map.mp hd
  exact two_okd
theorem kis_okd {ks : List Ki} : OkD K (kisD ks) := tup_okd fun d hd => by
  obtain ⟨k, _, rfl⟩ := List.mem_map.mp hd
  refine tup_okd fun d hd => ?_
  have : d = stD k.1 ∨ d = .tup (k.2.map joD) := by simpa using hd
  rcases this with rfl | rfl
  · exact tup_okd fun d hd => by
      obtain ⟨t, _, rfl⟩ := List.mem_map.mp hd
      exact two_okd
  · exact tup_okd fun d hd => by
      obtain ⟨t, _, rfl⟩ := List.mem_map.mp hd
      exact two_okd
theorem sh3 (k i j : Int) (u : Th) : ∃ p, toPy (.tup [.int k, .tup [.int i, .int j], thD u]) = some p ∧ SeqAt.shaped p = true := by
  have h : ShD 5 (.tup [.int k, .tup [.int i, .int j], thD u]) := by
    intro d hd
    have : d = .int k ∨ d = .tup [.int i, .int j] ∨ d = thD u := by simpa using hd
    rcases this with rfl | rfl | rfl
    · trivial
    · intro x hx
      have : x = .int i ∨ x = .int j := by simpa using hx
      rcases this with rfl | rfl <;> trivial
    · intro x hx
      have : x = .int u.1 ∨ x = .int u.2 := by simpa [thD] using hx
      rcases this with rfl | rfl <;> trivial
  exact ⟨_, shD_sh h (by decide)⟩
instance : DecidableRel leT := fun a b => by unfold leT; infer_instance
def joVB (ss : List So) (jo : Jo) : Bool := match ss[jo.1]?, ss[jo.2]? with
  | some s, some t => !(decide (s.1 = 0) && decide (t.1 = 0))
  | _, _ => false
theorem joVB_v {ss : List So} {jo : Jo} (h : joVB ss jo = true) : JoV ss jo := by
  unfold joVB at h
  split at h
  · rename_i s t e1 e2
    refine ⟨s, t, e1, e2, fun z => ?_⟩
    rw [decide_eq_true z.1, decide_eq_true z.2] at h
    cases h
  · cases h
def tsB (ts : List Th) : Bool := decide (1 ≤ ts.length) && decide (ts.length ≤ 6) && ts.all (fun t => isTh (thD t)) && decide (ts.Pairwise leT)
theorem tsB_v {ts : List Th} (h : tsB ts = true) : TsOk ts := by
  unfold tsB at h
  simp only [Bool.and_eq_true, decide_eq_true_eq, List.all_eq_true] at h
  exact ⟨h.1.1.1, h.1.1.2, h.1.2, h.2⟩
def soB (s : So) : Bool := decide (0 ≤ s.1) && decide (s.1 ≤ 12) && decide (1 ≤ s.2) && decide (s.2 ≤ 6)
/-- what is told is a book -/
def bkB (ss : List So) (ks : List Ki) : Bool := (badBook (sosD ss) (kisD ks)).isNone && ss.all soB && decide (ks.length ≤ 5) && ks.all fun k => tsB k.1 && decide (k.2.length ≤ 900) && k.2.all (joVB ss)
structure BkC (ss : List So) (ks : List Ki) : Prop where
  f : badBook (sosD ss) (kisD ks) = none
  s : KsShort (kisD ks)
  v : BkV ss ks
theorem bkB_c {ss : List So} {ks : List Ki} (h : bkB ss ks = true) : BkC ss ks := by
  unfold bkB at h
  simp only [Bool.and_eq_true, decide_eq_true_eq, List.all_eq_true, Option.isNone_iff_eq_none] at h
  obtain ⟨⟨⟨h1, h2⟩, h3⟩, h4⟩ := h
  refine ⟨h1, fun d hd => ?_, ⟨fun s hs => ?_, h3, fun k mk => ⟨tsB_v (h4 k mk).1.1, (h4 k mk).1.2, fun jo mj => joVB_v ((h4 k mk).2 jo mj)⟩⟩⟩
  · obtain ⟨k, mk, rfl⟩ := List.mem_map.mp hd
    show (k.2.map joD).length ≤ 900
    rw [List.length_map]
    exact (h4 k mk).1.2
  · have := h2 s hs
    unfold soB at this
    simp only [Bool.and_eq_true, decide_eq_true_eq] at this
    exact ⟨this.1.1.1, this.1.1.2, this.1.2, this.2⟩
theorem rangeD_map {f : D → D} {lo : Int} {n : Nat} : (rangeD lo n).map f = (List.range n).map fun i => f (.int (lo + (i : Nat))) := by
  unfold rangeD
  rw [List.map_map]
  rfl
theorem mem_rangeD {d : D} {lo : Int} {n : Nat} (h : d ∈ rangeD lo n) : ∃ i : Nat, i < n ∧ d = .int (lo + (i : Nat)) := by
  unfold rangeD at h
  obtain ⟨i, hi, rfl⟩ := List.mem_map.mp h
  exact ⟨i, by simpa using hi, rfl⟩
def s1 (c : Nat) : List So := [(1, 1 + (c : Int))]
def good1 (c m : Nat) : List Th := (List.range (m + 1)).map fun (i : Nat) => ((1 + (i : Int)) * (1 + (c : Int)) + 1, 1)
def bad1 (c m : Nat) : List Th := (List.range (m + 1)).map fun (i : Nat) => ((1 + (i : Int)) * (1 + (c : Int)), 1)
def k1 (ts : List Th) : List Ki := [(ts, [(0, 0)])]
def chk1 (c m : Nat) : Bool := bkB (s1 c) (k1 (good1 c m)) && bkB (s1 c) (k1 (bad1 c m)) && calmB (s1 c) (k1 (good1 c m)) && (firstK (s1 c) 0 (k1 (good1 c m))).isNone && decide (lossB (s1 c) (k1 (good1 c m)) = some (2, 1)) && calmB (singS (s1 c)) (k1 (good1 c m)) &&
  !calmB (s1 c) (k1 (bad1 c m)) && decide (firstK (s1 c) 0 (k1 (bad1 c m)) = some (0, (0, 0), 1 + (c : Int))) && decide (grJ (s1 c) (0, 0) = 1) && decide (calmB (singS (s1 c)) (k1 (bad1 c m)) = decide ((1 : Int) < 1 + (c : Int))) &&
  decide (nfT (roomN (1, 1 + (c : Int)) (1, 1 + (c : Int))).1 (roomN (1, 1 + (c : Int)) (1, 1 + (c : Int))).2 = (2 * (1 + (c : Int)), 1)) && decide (nfT (1 + (c : Int)) 1 = (1 + (c : Int), 1))
theorem chk1_all : ∀ c ∈ List.range 6, ∀ m ∈ List.range 6, chk1 c m = true := by decide +kernel
def InvOne (f : Nat → Th) (σ : List Cell) (i : Nat) (acc : List D) (τ : List Cell) : Prop := acc = ((List.range i).map f).map thD ∧ τ = σ
theorem c1__law_one_right_ok {Z : CT} {c0 c3 c4 c5 c6 c7 c8 : Cell} {n m : Nat} {q : D → List Cell → Prop} {e : Xn → List Cell → Prop} (n6 : n < 6) (m6 : m < 6)
    (hq : q (.lst ((good1 n m).map thD)) [c0, .dat (.int (1 + (n : Int))), .dat (.int (1 + (m : Int))), c3, .any, c5, c6, c7, c8]) : c1__law_one_right K Z [c0, .dat (.int (1 + (n : Int))), .dat (.int (1 + (m : Int))), c3, c4, c5, c6, c7, c8] q e := by
  unfold c1__law_one_right wLc
  simp only [gIsB, gNotB, D.adr.injEq, Cont.pool.injEq, ixN31, ne_eq, List.map_cons, List.map_nil, wPoolOpen, wPoolClose, wPop0, wPopTo, wListOwn, wRemove, wRaise0, wRaise1, wAugOwn, wEnumL, wTru, wSlA, gCatA, gLtT, gLeT, wFrz, wChain3, wAttr, wMkF, wEnumT, wRevT, wDict0, wDict1, numD3, Nat.reduceAdd, atI0, atI1, atI2, atI3, atI4, ixN51, ixN52, ixN53, List.length_map, wNever, scal, V.int.injEq, V.str.injEq, V.bl.injEq, wSq, wNext, wBreak, wCont, wDrop, wRet, wRetN, wIfS, wAsg, wPar, wLstOwn, wAppend, wSetOwn, wIxOwn, wPeek, wRetOwn, wRetFr, wFor, wB, wNot, wAnd, wOr, wAndV, wOrV, wNotV, wIf, wChain, wNil, wCons, wCB, wTup, wLst, wNoPart, wPart, wSlT, wSlL, wSeq, wRng1, wRng2, wZip, wName, wNilT, wConsT, wTupT, wYes, wNeg, wVar, wC, wOp, wcNil, wcCons, wcOwn, wCall, wCallOwn, slots, cellsOf, OwnArgs, putBack, g2I, g2IC, gLen, gAbs, gGcd, gInt1, gTupleOf, gListOf, gIx, gCatT, gCat, gEq, gNe, gIsN, gNotN, scD, seqD_t, seqD_l, seqD_f, isNonD, List.nodup_cons, List.mem_cons, List.not_mem_nil, or_false, not_false_eq_true, Nat.reduceEqDiff, L3.Keeps, ends, wipeD, List.replicate, List.cons_append, List.nil_append, List.append_nil, List.getElem?_cons_zero, List.getElem?_cons_succ, List.set_cons_zero, List.set_cons_succ, List.getD_cons_zero, List.getD_cons_succ, List.length_cons, List.length_nil, List.nodup_nil, Option.some.injEq, Cell.dat.injEq, Cell.own.injEq, Cont.lst.injEq, D.bl.injEq, D.int.injEq, D.str.injEq, D.tup.injEq, D.lst.injEq, Arg.d.injEq, List.cons.injEq, exists_and_left, exists_and_right, exists_eq_left', exists_eq_left, exists_eq_right, exists_eq_right', exists_eq, exists_eq', and_true, true_and, and_assoc, and_self, exists_const, reduceCtorEq]
  refine ⟨by decide, by decide, by omega, by omega, by rw [rangeD_length]; omega, InvOne (fun i => ((1 + (i : Int)) * (1 + (n : Int)) + 1, 1)) [c0, .dat (.int (1 + (n : Int))), .dat (.int (1 + (m : Int))), c3, .any, c5, c6, c7, c8], ⟨rfl, rfl⟩, ?_, ?_⟩
  · rintro i d acc τ2 hd ⟨rfl, rfl⟩ -
    have hi := (List.getElem?_eq_some_iff.mp hd).1
    rw [rangeD_length] at hi
    rw [rangeD_get hi] at hd
    cases hd
    simp only [gIsB, gNotB, D.adr.injEq, Cont.pool.injEq, ixN31, ne_eq, List.map_cons, List.map_nil, wPoolOpen, wPoolClose, wPop0, wPopTo, wListOwn, wRemove, wRaise0, wRaise1, wAugOwn, wEnumL, wTru, wSlA, gCatA, gLtT, gLeT, wFrz, wChain3, wAttr, wMkF, wEnumT, wRevT, wDict0, wDict1, numD3, Nat.reduceAdd, atI0, atI1, atI2, atI3, atI4, ixN51, ixN52, ixN53, List.length_map, wNever, scal, V.int.injEq, V.str.injEq, V.bl.injEq, wSq, wNext, wBreak, wCont, wDrop, wRet, wRetN, wIfS, wAsg, wPar, wLstOwn, wAppend, wSetOwn, wIxOwn, wPeek, wRetOwn, wRetFr, wFor, wB, wNot, wAnd, wOr, wAndV, wOrV, wNotV, wIf, wChain, wNil, wCons, wCB, wTup, wLst, wNoPart, wPart, wSlT, wSlL, wSeq, wRng1, wRng2, wZip, wName, wNilT, wConsT, wTupT, wYes, wNeg, wVar, wC, wOp, wcNil, wcCons, wcOwn, wCall, wCallOwn, slots, cellsOf, OwnArgs, putBack, g2I, g2IC, gLen, gAbs, gGcd, gInt1, gTupleOf, gListOf, gIx, gCatT, gCat, gEq, gNe, gIsN, gNotN, scD, seqD_t, seqD_l, seqD_f, isNonD, List.nodup_cons, List.mem_cons, List.not_mem_nil, or_false, not_false_eq_true, Nat.reduceEqDiff, L3.Keeps, ends, wipeD, List.replicate, List.cons_append, List.nil_append, List.append_nil, List.getElem?_cons_zero, List.getElem?_cons_succ, List.set_cons_zero, List.set_cons_succ, List.getD_cons_zero, List.getD_cons_succ, List.length_cons, List.length_nil, List.nodup_nil, Option.some.injEq, Cell.dat.injEq, Cell.own.injEq, Cont.lst.injEq, D.bl.injEq, D.int.injEq, D.str.injEq, D.tup.injEq, D.lst.injEq, Arg.d.injEq, List.cons.injEq, exists_and_left, exists_and_right, exists_eq_left', exists_eq_left, exists_eq_right, exists_eq_right', exists_eq, exists_eq', and_true, true_and, and_assoc, and_self, exists_const, reduceCtorEq]
    refine ⟨fun _ => ⟨cmul_l (by omega) (by omega), by decide, ?_, rfl⟩, fun z => z.elim⟩
    rw [List.range_succ, List.map_append, List.map_append]
    rfl
  · rintro acc τ2 ⟨rfl, e⟩ -
    rw [e]
    have : (rangeD 1 (1 + (m : Int) + 1 - 1).toNat).length = m + 1 := by rw [rangeD_length]; omega
    rw [this]
    exact hq
theorem c2__law_one_right_ok {Z : CT} {c0 c3 c4 c5 c6 c7 c8 : Cell} {n m : Nat} {q : D → List Cell → Prop} {e : Xn → List Cell → Prop} (n6 : n < 6) (m6 : m < 6)
    (hq : q (.lst ((bad1 n m).map thD)) [c0, .dat (.int (1 + (n : Int))), .dat (.int (1 + (m : Int))), c3, .any, c5, c6, c7, c8]) : c2__law_one_right K Z [c0, .dat (.int (1 + (n : Int))), .dat (.int (1 + (m : Int))), c3, c4, c5, c6, c7, c8] q e := by
  unfold c2__law_one_right wLc
  simp only [gIsB, gNotB, D.adr.injEq, Cont.pool.injEq, ixN31, ne_eq, List.map_cons, List.map_nil, wPoolOpen, wPoolClose, wPop0, wPopTo, wListOwn, wRemove, wRaise0, wRaise1, wAugOwn, wEnumL, wTru, wSlA, gCatA, gLtT, gLeT, wFrz, wChain3, wAttr, wMkF, wEnumT, wRevT, wDict0, wDict1, numD3, Nat.reduceAdd, atI0, atI1, atI2, atI3, atI4, ixN51, ixN52, ixN53, List.length_map, wNever, scal, V.int.injEq, V.str.injEq, V.bl.injEq, wSq, wNext, wBreak, wCont, wDrop, wRet, wRetN, wIfS, wAsg, wPar, wLstOwn, wAppend, wSetOwn, wIxOwn, wPeek, wRetOwn, wRetFr, wFor, wB, wNot, wAnd, wOr, wAndV, wOrV, wNotV, wIf, wChain, wNil, wCons, wCB, wTup, wLst, wNoPart, wPart, wSlT, wSlL, wSeq, wRng1, wRng2, wZip, wName, wNilT, wConsT, wTupT, wYes, wNeg, wVar, wC, wOp, wcNil, wcCons, wcOwn, wCall, wCallOwn, slots, cellsOf, OwnArgs, putBack, g2I, g2IC, gLen, gAbs, gGcd, gInt1, gTupleOf, gListOf, gIx, gCatT, gCat, gEq, gNe, gIsN, gNotN, scD, seqD_t, seqD_l, seqD_f, isNonD, List.nodup_cons, List.mem_cons, List.not_mem_nil, or_false, not_false_eq_true, Nat.reduceEqDiff, L3.Keeps, ends, wipeD, List.replicate, List.cons_append, List.nil_append, List.append_nil, List.getElem?_cons_zero, List.getElem?_cons_succ, List.set_cons_zero, List.set_cons_succ, List.getD_cons_zero, List.getD_cons_succ, List.length_cons, List.length_nil, List.nodup_nil, Option.some.injEq, Cell.dat.injEq, Cell.own.injEq, Cont.lst.injEq, D.bl.injEq, D.int.injEq, D.str.injEq, D.tup.injEq, D.lst.injEq, Arg.d.injEq, List.cons.injEq, exists_and_left, exists_and_right, exists_eq_left', exists_eq_left, exists_eq_right, exists_eq_right', exists_eq, exists_eq', and_true, true_and, and_assoc, and_self, exists_const, reduceCtorEq]
  refine ⟨by decide, by decide, by omega, by omega, by rw [rangeD_length]; omega, InvOne (fun i => ((1 + (i : Int)) * (1 + (n : Int)), 1)) [c0, .dat (.int (1 + (n : Int))), .dat (.int (1 + (m : Int))), c3, .any, c5, c6, c7, c8], ⟨rfl, rfl⟩, ?_, ?_⟩
  · rintro i d acc τ2 hd ⟨rfl, rfl⟩ -
    have hi := (List.getElem?_eq_some_iff.mp hd).1
    rw [rangeD_length] at hi
    rw [rangeD_get hi] at hd
    cases hd
    simp only [gIsB, gNotB, D.adr.injEq, Cont.pool.injEq, ixN31, ne_eq, List.map_cons, List.map_nil, wPoolOpen, wPoolClose, wPop0, wPopTo, wListOwn, wRemove, wRaise0, wRaise1, wAugOwn, wEnumL, wTru, wSlA, gCatA, gLtT, gLeT, wFrz, wChain3, wAttr, wMkF, wEnumT, wRevT, wDict0, wDict1, numD3, Nat.reduceAdd, atI0, atI1, atI2, atI3, atI4, ixN51, ixN52, ixN53, List.length_map, wNever, scal, V.int.injEq, V.str.injEq, V.bl.injEq, wSq, wNext, wBreak, wCont, wDrop, wRet, wRetN, wIfS, wAsg, wPar, wLstOwn, wAppend, wSetOwn, wIxOwn, wPeek, wRetOwn, wRetFr, wFor, wB, wNot, wAnd, wOr, wAndV, wOrV, wNotV, wIf, wChain, wNil, wCons, wCB, wTup, wLst, wNoPart, wPart, wSlT, wSlL, wSeq, wRng1, wRng2, wZip, wName, wNilT, wConsT, wTupT, wYes, wNeg, wVar, wC, wOp, wcNil, wcCons, wcOwn, wCall, wCallOwn, slots, cellsOf, OwnArgs, putBack, g2I, g2IC, gLen, gAbs, gGcd, gInt1, gTupleOf, gListOf, gIx, gCatT, gCat, gEq, gNe, gIsN, gNotN, scD, seqD_t, seqD_l, seqD_f, isNonD, List.nodup_cons, List.mem_cons, List.not_mem_nil, or_false, not_false_eq_true, Nat.reduceEqDiff, L3.Keeps, ends, wipeD, List.replicate, List.cons_append, List.nil_append, List.append_nil, List.getElem?_cons_zero, List.getElem?_cons_succ, List.set_cons_zero, List.set_cons_succ, List.getD_cons_zero, List.getD_cons_succ, List.length_cons, List.length_nil, List.nodup_nil, Option.some.injEq, Cell.dat.injEq, Cell.own.injEq, Cont.lst.injEq, D.bl.injEq, D.int.injEq, D.str.injEq, D.tup.injEq, D.lst.injEq, Arg.d.injEq, List.cons.injEq, exists_and_left, exists_and_right, exists_eq_left', exists_eq_left, exists_eq_right, exists_eq_right', exists_eq, exists_eq', and_true, true_and, and_assoc, and_self, exists_const, reduceCtorEq]
    refine ⟨fun _ => ⟨cmul_l (by omega) (by omega), by decide, ?_, rfl⟩, fun z => z.elim⟩
    rw [List.range_succ, List.map_append, List.map_append]
    rfl
  · rintro acc τ2 ⟨rfl, e⟩ -
    rw [e]
    have : (rangeD 1 (1 + (m : Int) + 1 - 1).toNat).length = m + 1 := by rw [rangeD_length]; omega
    rw [this]
    exact hq
def fs__law_one_right (K : PySem.W.Frag) (Z : CT) : FS := fun cs q _ => ∃ (p : Addr) (c : Cont), cs = [.own p c] ∧ PoolC c ∧ ∀ c' : Cont, PoolC c' → q (.bl true) [.own p c']
theorem t8__law_one_right_ok {Z : CT} {E : EndsD} {c0 c2 c3 c4 c5 c6 : Cell} {n m : Nat} (g1 : BkC (s1 n) (k1 (good1 n m))) (g2 : BkC (s1 n) (k1 (bad1 n m)))
    (h3 : calmB (s1 n) (k1 (good1 n m)) = true) (h5 : lossB (s1 n) (k1 (good1 n m)) = some (2, 1)) (h6 : calmB (singS (s1 n)) (k1 (good1 n m)) = true) (h7 : calmB (s1 n) (k1 (bad1 n m)) = false)
    (h8 : firstK (s1 n) 0 (k1 (bad1 n m)) = some (0, (0, 0), 1 + (n : Int))) (h9 : grJ (s1 n) (0, 0) = 1) (h10 : calmB (singS (s1 n)) (k1 (bad1 n m)) = decide (1 < 1 + (n : Int))) (h12 : nfT (1 + (n : Int)) 1 = (1 + (n : Int), 1))
    (hq : E.rt (.bl true) [c0, .dat (.int (1 + (n : Int))), c2, c3, c4, c5, c6, .dat (bookI Z (sosD (s1 n)) (kisD (k1 (good1 n m)))), .dat (bookI Z (sosD (s1 n)) (kisD (k1 (bad1 n m))))]) :
    t8__law_one_right K Z E [c0, .dat (.int (1 + (n : Int))), c2, c3, c4, c5, c6, .dat (bookI Z (sosD (s1 n)) (kisD (k1 (good1 n m)))), .dat (bookI Z (sosD (s1 n)) (kisD (k1 (bad1 n m))))] := by
  unfold t8__law_one_right t9__law_one_right t10__law_one_right
  simp only [fs_loss, fs_calm, fs_calm_singly, fs_breach, fs__law_flag, gIsB, gNotB, D.adr.injEq, Cont.pool.injEq, ixN31, ne_eq, List.map_cons, List.map_nil, wPoolOpen, wPoolClose, wPop0, wPopTo, wListOwn, wRemove, wRaise0, wRaise1, wAugOwn, wEnumL, wTru, wSlA, gCatA, gLtT, gLeT, wFrz, wChain3, wAttr, wMkF, wEnumT, wRevT, wDict0, wDict1, numD3, Nat.reduceAdd, atI0, atI1, atI2, atI3, atI4, ixN51, ixN52, ixN53, List.length_map, wNever, scal, V.int.injEq, V.str.injEq, V.bl.injEq, wSq, wNext, wBreak, wCont, wDrop, wRet, wRetN, wIfS, wAsg, wPar, wLstOwn, wAppend, wSetOwn, wIxOwn, wPeek, wRetOwn, wRetFr, wFor, wB, wNot, wAnd, wOr, wAndV, wOrV, wNotV, wIf, wChain, wNil, wCons, wCB, wTup, wLst, wNoPart, wPart, wSlT, wSlL, wSeq, wRng1, wRng2, wZip, wName, wNilT, wConsT, wTupT, wYes, wNeg, wVar, wC, wOp, wcNil, wcCons, wcOwn, wCall, wCallOwn, slots, cellsOf, OwnArgs, putBack, g2I, g2IC, gLen, gAbs, gGcd, gInt1, gTupleOf, gListOf, gIx, gCatT, gCat, gEq, gNe, gIsN, gNotN, scD, seqD_t, seqD_l, seqD_f, isNonD, List.nodup_cons, List.mem_cons, List.not_mem_nil, or_false, not_false_eq_true, Nat.reduceEqDiff, L3.Keeps, ends, wipeD, List.replicate, List.cons_append, List.nil_append, List.append_nil, List.getElem?_cons_zero, List.getElem?_cons_succ, List.set_cons_zero, List.set_cons_succ, List.getD_cons_zero, List.getD_cons_succ, List.length_cons, List.length_nil, List.nodup_nil, Option.some.injEq, Cell.dat.injEq, Cell.own.injEq, Cont.lst.injEq, D.bl.injEq, D.int.injEq, D.str.injEq, D.tup.injEq, D.lst.injEq, Arg.d.injEq, List.cons.injEq, exists_and_left, exists_and_right, exists_eq_left', exists_eq_left, exists_eq_right, exists_eq_right', exists_eq, exists_eq', and_true, true_and, and_assoc, and_self, exists_const, reduceCtorEq]
  refine ⟨s1 n, k1 (good1 n m), rfl, g1.v, fun _ => ⟨by decide, ?_⟩, fun z => by rw [h3] at z; cases z⟩
  rw [h5]
  show gNeD (thD (2, 1)) (thD (2, 1)) _
  refine gNeD_refl (py_th _) (sh_th _) ⟨false, rfl, fun _ => ?_, fun z => (nomatch z)⟩
  refine ⟨s1 n, k1 (good1 n m), rfl, g1.v, (show 1 ≤ 900 by decide), fun z => by rw [h6] at z; simp at z, fun _ => ?_⟩
  refine ⟨s1 n, k1 (bad1 n m), rfl, g2.v, fun _ => ?_, fun z => by rw [h7] at z; simp at z⟩
  refine ⟨s1 n, k1 (bad1 n m), rfl, g2.v, by decide, by decide, by decide, ?_⟩
  rw [h8]
  obtain ⟨py, hp, hs⟩ := sh3 0 0 0 (1 + (n : Int), 1)
  have e : brD (s1 n) (some (0, (0, 0), 1 + (n : Int))) = D.tup [D.int 0, D.tup [D.int 0, D.int 0], D.tup [D.int (1 + (n : Int)), D.int 1]] := by
    show D.tup [D.int 0, D.tup [D.int 0, D.int 0], nf (1 + (n : Int)) (grJ (s1 n) (0, 0))] = _
    rw [h9, nfT_eq, h12]
    rfl
  rw [e]
  refine gNeD_refl hp hs ⟨false, rfl, fun z => (nomatch z), fun _ => ?_⟩
  refine ⟨s1 n, k1 (bad1 n m), rfl, g2.v, (show 1 ≤ 900 by decide), ?_⟩
  rw [h10, decide_eq_true rfl]
  exact hq
theorem pure__law_one_right {Z : CT} : PureD 1 8 (fs__law_one_right K Z) (w__law_one_right K Z) := by
  rintro cs q e - ⟨p, c, rfl, hc, hq⟩
  simp only [w__law_one_right, fs__law_draw, gIsB, gNotB, D.adr.injEq, Cont.pool.injEq, ixN31, ne_eq, List.map_cons, List.map_nil, wPoolOpen, wPoolClose, wPop0, wPopTo, wListOwn, wRemove, wRaise0, wRaise1, wAugOwn, wEnumL, wTru, wSlA, gCatA, gLtT, gLeT, wFrz, wChain3, wAttr, wMkF, wEnumT, wRevT, wDict0, wDict1, numD3, Nat.reduceAdd, atI0, atI1, atI2, atI3, atI4, ixN51, ixN52, ixN53, List.length_map, wNever, scal, V.int.injEq, V.str.injEq, V.bl.injEq, wSq, wNext, wBreak, wCont, wDrop, wRet, wRetN, wIfS, wAsg, wPar, wLstOwn, wAppend, wSetOwn, wIxOwn, wPeek, wRetOwn, wRetFr, wFor, wB, wNot, wAnd, wOr, wAndV, wOrV, wNotV, wIf, wChain, wNil, wCons, wCB, wTup, wLst, wNoPart, wPart, wSlT, wSlL, wSeq, wRng1, wRng2, wZip, wName, wNilT, wConsT, wTupT, wYes, wNeg, wVar, wC, wOp, wcNil, wcCons, wcOwn, wCall, wCallOwn, slots, cellsOf, OwnArgs, putBack, g2I, g2IC, gLen, gAbs, gGcd, gInt1, gTupleOf, gListOf, gIx, gCatT, gCat, gEq, gNe, gIsN, gNotN, scD, seqD_t, seqD_l, seqD_f, isNonD, List.nodup_cons, List.mem_cons, List.not_mem_nil, or_false, not_false_eq_true, Nat.reduceEqDiff, L3.Keeps, ends, wipeD, List.replicate, List.cons_append, List.nil_append, List.append_nil, List.getElem?_cons_zero, List.getElem?_cons_succ, List.set_cons_zero, List.set_cons_succ, List.getD_cons_zero, List.getD_cons_succ, List.length_cons, List.length_nil, List.nodup_nil, Option.some.injEq, Cell.dat.injEq, Cell.own.injEq, Cont.lst.injEq, D.bl.injEq, D.int.injEq, D.str.injEq, D.tup.injEq, D.lst.injEq, Arg.d.injEq, List.cons.injEq, exists_and_left, exists_and_right, exists_eq_left', exists_eq_left, exists_eq_right, exists_eq_right', exists_eq, exists_eq', and_true, true_and, and_assoc, and_self, exists_const, reduceCtorEq]
  refine ⟨hc, by decide, by decide, fun c1 n hc1 n0 n6 => ⟨hc1, by decide, by decide, fun c2 m hc2 m0 m6 => ?_⟩⟩
  obtain ⟨n, rfl⟩ := Int.eq_ofNat_of_zero_le n0
  obtain ⟨m, rfl⟩ := Int.eq_ofNat_of_zero_le m0
  have hchk := chk1_all n (by simp; omega) m (by simp; omega)
  unfold chk1 at hchk
  simp only [Bool.and_eq_true, decide_eq_true_eq, Option.isNone_iff_eq_none, Bool.not_eq_true'] at hchk
  obtain ⟨⟨⟨⟨⟨⟨⟨⟨⟨⟨⟨h1, h2⟩, h3⟩, h4⟩, h5⟩, h6⟩, h7⟩, h8⟩, h9⟩, h10⟩, h11⟩, h12⟩ := hchk
  have g1 := bkB_c h1
  have g2 := bkB_c h2
  unfold t2__law_one_right
  simp only [gIsB, gNotB, D.adr.injEq, Cont.pool.injEq, ixN31, ne_eq, List.map_cons, List.map_nil, wPoolOpen, wPoolClose, wPop0, wPopTo, wListOwn, wRemove, wRaise0, wRaise1, wAugOwn, wEnumL, wTru, wSlA, gCatA, gLtT, gLeT, wFrz, wChain3, wAttr, wMkF, wEnumT, wRevT, wDict0, wDict1, numD3, Nat.reduceAdd, atI0, atI1, atI2, atI3, atI4, ixN51, ixN52, ixN53, List.length_map, wNever, scal, V.int.injEq, V.str.injEq, V.bl.injEq, wSq, wNext, wBreak, wCont, wDrop, wRet, wRetN, wIfS, wAsg, wPar, wLstOwn, wAppend, wSetOwn, wIxOwn, wPeek, wRetOwn, wRetFr, wFor, wB, wNot, wAnd, wOr, wAndV, wOrV, wNotV, wIf, wChain, wNil, wCons, wCB, wTup, wLst, wNoPart, wPart, wSlT, wSlL, wSeq, wRng1, wRng2, wZip, wName, wNilT, wConsT, wTupT, wYes, wNeg, wVar, wC, wOp, wcNil, wcCons, wcOwn, wCall, wCallOwn, slots, cellsOf, OwnArgs, putBack, g2I, g2IC, gLen, gAbs, gGcd, gInt1, gTupleOf, gListOf, gIx, gCatT, gCat, gEq, gNe, gIsN, gNotN, scD, seqD_t, seqD_l, seqD_f, isNonD, List.nodup_cons, List.mem_cons, List.not_mem_nil, or_false, not_false_eq_true, Nat.reduceEqDiff, L3.Keeps, ends, wipeD, List.replicate, List.cons_append, List.nil_append, List.append_nil, List.getElem?_cons_zero, List.getElem?_cons_succ, List.set_cons_zero, List.set_cons_succ, List.getD_cons_zero, List.getD_cons_succ, List.length_cons, List.length_nil, List.nodup_nil, Option.some.injEq, Cell.dat.injEq, Cell.own.injEq, Cont.lst.injEq, D.bl.injEq, D.int.injEq, D.str.injEq, D.tup.injEq, D.lst.injEq, Arg.d.injEq, List.cons.injEq, exists_and_left, exists_and_right, exists_eq_left', exists_eq_left, exists_eq_right, exists_eq_right', exists_eq, exists_eq', and_true, true_and, and_assoc, and_self, exists_const, reduceCtorEq]
  refine c1__law_one_right_ok (by omega) (by omega) ?_
  simp only [gIsB, gNotB, D.adr.injEq, Cont.pool.injEq, ixN31, ne_eq, List.map_cons, List.map_nil, wPoolOpen, wPoolClose, wPop0, wPopTo, wListOwn, wRemove, wRaise0, wRaise1, wAugOwn, wEnumL, wTru, wSlA, gCatA, gLtT, gLeT, wFrz, wChain3, wAttr, wMkF, wEnumT, wRevT, wDict0, wDict1, numD3, Nat.reduceAdd, atI0, atI1, atI2, atI3, atI4, ixN51, ixN52, ixN53, List.length_map, wNever, scal, V.int.injEq, V.str.injEq, V.bl.injEq, wSq, wNext, wBreak, wCont, wDrop, wRet, wRetN, wIfS, wAsg, wPar, wLstOwn, wAppend, wSetOwn, wIxOwn, wPeek, wRetOwn, wRetFr, wFor, wB, wNot, wAnd, wOr, wAndV, wOrV, wNotV, wIf, wChain, wNil, wCons, wCB, wTup, wLst, wNoPart, wPart, wSlT, wSlL, wSeq, wRng1, wRng2, wZip, wName, wNilT, wConsT, wTupT, wYes, wNeg, wVar, wC, wOp, wcNil, wcCons, wcOwn, wCall, wCallOwn, slots, cellsOf, OwnArgs, putBack, g2I, g2IC, gLen, gAbs, gGcd, gInt1, gTupleOf, gListOf, gIx, gCatT, gCat, gEq, gNe, gIsN, gNotN, scD, seqD_t, seqD_l, seqD_f, isNonD, List.nodup_cons, List.mem_cons, List.not_mem_nil, or_false, not_false_eq_true, Nat.reduceEqDiff, L3.Keeps, ends, wipeD, List.replicate, List.cons_append, List.nil_append, List.append_nil, List.getElem?_cons_zero, List.getElem?_cons_succ, List.set_cons_zero, List.set_cons_succ, List.getD_cons_zero, List.getD_cons_succ, List.length_cons, List.length_nil, List.nodup_nil, Option.some.injEq, Cell.dat.injEq, Cell.own.injEq, Cont.lst.injEq, D.bl.injEq, D.int.injEq, D.str.injEq, D.tup.injEq, D.lst.injEq, Arg.d.injEq, List.cons.injEq, exists_and_left, exists_and_right, exists_eq_left', exists_eq_left, exists_eq_right, exists_eq_right', exists_eq, exists_eq', and_true, true_and, and_assoc, and_self, exists_const, reduceCtorEq]
  unfold t3__law_one_right
  simp only [gIsB, gNotB, D.adr.injEq, Cont.pool.injEq, ixN31, ne_eq, List.map_cons, List.map_nil, wPoolOpen, wPoolClose, wPop0, wPopTo, wListOwn, wRemove, wRaise0, wRaise1, wAugOwn, wEnumL, wTru, wSlA, gCatA, gLtT, gLeT, wFrz, wChain3, wAttr, wMkF, wEnumT, wRevT, wDict0, wDict1, numD3, Nat.reduceAdd, atI0, atI1, atI2, atI3, atI4, ixN51, ixN52, ixN53, List.length_map, wNever, scal, V.int.injEq, V.str.injEq, V.bl.injEq, wSq, wNext, wBreak, wCont, wDrop, wRet, wRetN, wIfS, wAsg, wPar, wLstOwn, wAppend, wSetOwn, wIxOwn, wPeek, wRetOwn, wRetFr, wFor, wB, wNot, wAnd, wOr, wAndV, wOrV, wNotV, wIf, wChain, wNil, wCons, wCB, wTup, wLst, wNoPart, wPart, wSlT, wSlL, wSeq, wRng1, wRng2, wZip, wName, wNilT, wConsT, wTupT, wYes, wNeg, wVar, wC, wOp, wcNil, wcCons, wcOwn, wCall, wCallOwn, slots, cellsOf, OwnArgs, putBack, g2I, g2IC, gLen, gAbs, gGcd, gInt1, gTupleOf, gListOf, gIx, gCatT, gCat, gEq, gNe, gIsN, gNotN, scD, seqD_t, seqD_l, seqD_f, isNonD, List.nodup_cons, List.mem_cons, List.not_mem_nil, or_false, not_false_eq_true, Nat.reduceEqDiff, L3.Keeps, ends, wipeD, List.replicate, List.cons_append, List.nil_append, List.append_nil, List.getElem?_cons_zero, List.getElem?_cons_succ, List.set_cons_zero, List.set_cons_succ, List.getD_cons_zero, List.getD_cons_succ, List.length_cons, List.length_nil, List.nodup_nil, Option.some.injEq, Cell.dat.injEq, Cell.own.injEq, Cont.lst.injEq, D.bl.injEq, D.int.injEq, D.str.injEq, D.tup.injEq, D.lst.injEq, Arg.d.injEq, List.cons.injEq, exists_and_left, exists_and_right, exists_eq_left', exists_eq_left, exists_eq_right, exists_eq_right', exists_eq, exists_eq', and_true, true_and, and_assoc, and_self, exists_const, reduceCtorEq]
  refine c2__law_one_right_ok (by omega) (by omega) ?_
  simp only [gIsB, gNotB, D.adr.injEq, Cont.pool.injEq, ixN31, ne_eq, List.map_cons, List.map_nil, wPoolOpen, wPoolClose, wPop0, wPopTo, wListOwn, wRemove, wRaise0, wRaise1, wAugOwn, wEnumL, wTru, wSlA, gCatA, gLtT, gLeT, wFrz, wChain3, wAttr, wMkF, wEnumT, wRevT, wDict0, wDict1, numD3, Nat.reduceAdd, atI0, atI1, atI2, atI3, atI4, ixN51, ixN52, ixN53, List.length_map, wNever, scal, V.int.injEq, V.str.injEq, V.bl.injEq, wSq, wNext, wBreak, wCont, wDrop, wRet, wRetN, wIfS, wAsg, wPar, wLstOwn, wAppend, wSetOwn, wIxOwn, wPeek, wRetOwn, wRetFr, wFor, wB, wNot, wAnd, wOr, wAndV, wOrV, wNotV, wIf, wChain, wNil, wCons, wCB, wTup, wLst, wNoPart, wPart, wSlT, wSlL, wSeq, wRng1, wRng2, wZip, wName, wNilT, wConsT, wTupT, wYes, wNeg, wVar, wC, wOp, wcNil, wcCons, wcOwn, wCall, wCallOwn, slots, cellsOf, OwnArgs, putBack, g2I, g2IC, gLen, gAbs, gGcd, gInt1, gTupleOf, gListOf, gIx, gCatT, gCat, gEq, gNe, gIsN, gNotN, scD, seqD_t, seqD_l, seqD_f, isNonD, List.nodup_cons, List.mem_cons, List.not_mem_nil, or_false, not_false_eq_true, Nat.reduceEqDiff, L3.Keeps, ends, wipeD, List.replicate, List.cons_append, List.nil_append, List.append_nil, List.getElem?_cons_zero, List.getElem?_cons_succ, List.set_cons_zero, List.set_cons_succ, List.getD_cons_zero, List.getD_cons_succ, List.length_cons, List.length_nil, List.nodup_nil, Option.some.injEq, Cell.dat.injEq, Cell.own.injEq, Cont.lst.injEq, D.bl.injEq, D.int.injEq, D.str.injEq, D.tup.injEq, D.lst.injEq, Arg.d.injEq, List.cons.injEq, exists_and_left, exists_and_right, exists_eq_left', exists_eq_left, exists_eq_right, exists_eq_right', exists_eq, exists_eq', and_true, true_and, and_assoc, and_self, exists_const, reduceCtorEq]
  unfold t5__law_one_right
  simp only [wMkI, fs_Book__init__, gIsB, gNotB, D.adr.injEq, Cont.pool.injEq, ixN31, ne_eq, List.map_cons, List.map_nil, wPoolOpen, wPoolClose, wPop0, wPopTo, wListOwn, wRemove, wRaise0, wRaise1, wAugOwn, wEnumL, wTru, wSlA, gCatA, gLtT, gLeT, wFrz, wChain3, wAttr, wMkF, wEnumT, wRevT, wDict0, wDict1, numD3, Nat.reduceAdd, atI0, atI1, atI2, atI3, atI4, ixN51, ixN52, ixN53, List.length_map, wNever, scal, V.int.injEq, V.str.injEq, V.bl.injEq, wSq, wNext, wBreak, wCont, wDrop, wRet, wRetN, wIfS, wAsg, wPar, wLstOwn, wAppend, wSetOwn, wIxOwn, wPeek, wRetOwn, wRetFr, wFor, wB, wNot, wAnd, wOr, wAndV, wOrV, wNotV, wIf, wChain, wNil, wCons, wCB, wTup, wLst, wNoPart, wPart, wSlT, wSlL, wSeq, wRng1, wRng2, wZip, wName, wNilT, wConsT, wTupT, wYes, wNeg, wVar, wC, wOp, wcNil, wcCons, wcOwn, wCall, wCallOwn, slots, cellsOf, OwnArgs, putBack, g2I, g2IC, gLen, gAbs, gGcd, gInt1, gTupleOf, gListOf, gIx, gCatT, gCat, gEq, gNe, gIsN, gNotN, scD, seqD_t, seqD_l, seqD_f, isNonD, List.nodup_cons, List.mem_cons, List.not_mem_nil, or_false, not_false_eq_true, Nat.reduceEqDiff, L3.Keeps, ends, wipeD, List.replicate, List.cons_append, List.nil_append, List.append_nil, List.getElem?_cons_zero, List.getElem?_cons_succ, List.set_cons_zero, List.set_cons_succ, List.getD_cons_zero, List.getD_cons_succ, List.length_cons, List.length_nil, List.nodup_nil, Option.some.injEq, Cell.dat.injEq, Cell.own.injEq, Cont.lst.injEq, D.bl.injEq, D.int.injEq, D.str.injEq, D.tup.injEq, D.lst.injEq, Arg.d.injEq, List.cons.injEq, exists_and_left, exists_and_right, exists_eq_left', exists_eq_left, exists_eq_right, exists_eq_right', exists_eq, exists_eq', and_true, true_and, and_assoc, and_self, exists_const, reduceCtorEq]
  refine ⟨by decide, by decide, by decide, by decide, by decide, by decide, fun x dx => ⟨dx, rfl, sos_okd (ss := s1 n), kis_okd (ks := k1 (good1 n m)), g1.s, fun part z => ?_, fun _ => ⟨_, rfl, by decide, by decide, by decide, by decide, fun x dx => ⟨dx, rfl, sos_okd (ss := s1 n), kis_okd (ks := k1 (bad1 n m)), g2.s, fun part z => ?_, fun _ => ⟨_, rfl, ?_⟩⟩⟩⟩⟩
  · cases g1.f.symm.trans z
  · cases g2.f.symm.trans z
  unfold t7__law_one_right
  simp only [fs_room, fs_calm, fs_breach, gIsB, gNotB, D.adr.injEq, Cont.pool.injEq, ixN31, ne_eq, List.map_cons, List.map_nil, wPoolOpen, wPoolClose, wPop0, wPopTo, wListOwn, wRemove, wRaise0, wRaise1, wAugOwn, wEnumL, wTru, wSlA, gCatA, gLtT, gLeT, wFrz, wChain3, wAttr, wMkF, wEnumT, wRevT, wDict0, wDict1, numD3, Nat.reduceAdd, atI0, atI1, atI2, atI3, atI4, ixN51, ixN52, ixN53, List.length_map, wNever, scal, V.int.injEq, V.str.injEq, V.bl.injEq, wSq, wNext, wBreak, wCont, wDrop, wRet, wRetN, wIfS, wAsg, wPar, wLstOwn, wAppend, wSetOwn, wIxOwn, wPeek, wRetOwn, wRetFr, wFor, wB, wNot, wAnd, wOr, wAndV, wOrV, wNotV, wIf, wChain, wNil, wCons, wCB, wTup, wLst, wNoPart, wPart, wSlT, wSlL, wSeq, wRng1, wRng2, wZip, wName, wNilT, wConsT, wTupT, wYes, wNeg, wVar, wC, wOp, wcNil, wcCons, wcOwn, wCall, wCallOwn, slots, cellsOf, OwnArgs, putBack, g2I, g2IC, gLen, gAbs, gGcd, gInt1, gTupleOf, gListOf, gIx, gCatT, gCat, gEq, gNe, gIsN, gNotN, scD, seqD_t, seqD_l, seqD_f, isNonD, List.nodup_cons, List.mem_cons, List.not_mem_nil, or_false, not_false_eq_true, Nat.reduceEqDiff, L3.Keeps, ends, wipeD, List.replicate, List.cons_append, List.nil_append, List.append_nil, List.getElem?_cons_zero, List.getElem?_cons_succ, List.set_cons_zero, List.set_cons_succ, List.getD_cons_zero, List.getD_cons_succ, List.length_cons, List.length_nil, List.nodup_nil, Option.some.injEq, Cell.dat.injEq, Cell.own.injEq, Cont.lst.injEq, D.bl.injEq, D.int.injEq, D.str.injEq, D.tup.injEq, D.lst.injEq, Arg.d.injEq, List.cons.injEq, exists_and_left, exists_and_right, exists_eq_left', exists_eq_left, exists_eq_right, exists_eq_right', exists_eq, exists_eq', and_true, true_and, and_assoc, and_self, exists_const, reduceCtorEq]
  refine ⟨s1 n, ⟨_, rfl⟩, int_okd, int_okd, g1.v.s, fun i j s t hi hj es et hp => ?_, fun z => by cases (show isPair (s1 n) (.int 0) (.int 0) = true from rfl).symm.trans z⟩
  have hi : i = 0 := by omega
  have hj : j = 0 := by omega
  subst hi
  subst hj
  cases (show some ((1 : Int), 1 + (n : Int)) = some s from es)
  cases (show some ((1 : Int), 1 + (n : Int)) = some t from et)
  refine ⟨cmul_l (by decide) (by decide), by decide, ?_⟩
  rw [nfT_eq, h11]
  refine gNeD_refl (py_th _) (sh_th _) ⟨false, rfl, fun _ => ?_, fun z => (nomatch z)⟩
  refine ⟨s1 n, k1 (good1 n m), rfl, g1.v, fun _ => ?_, fun z => by rw [h3] at z; simp at z⟩
  refine ⟨s1 n, k1 (good1 n m), rfl, g1.v, fun z => (by rw [h4] at z; cases z), fun _ => ?_⟩
  refine t8__law_one_right_ok g1 g2 h3 h5 h6 h7 h8 h9 h10 h12 ?_
  simp only [gIsB, gNotB, D.adr.injEq, Cont.pool.injEq, ixN31, ne_eq, List.map_cons, List.map_nil, wPoolOpen, wPoolClose, wPop0, wPopTo, wListOwn, wRemove, wRaise0, wRaise1, wAugOwn, wEnumL, wTru, wSlA, gCatA, gLtT, gLeT, wFrz, wChain3, wAttr, wMkF, wEnumT, wRevT, wDict0, wDict1, numD3, Nat.reduceAdd, atI0, atI1, atI2, atI3, atI4, ixN51, ixN52, ixN53, List.length_map, wNever, scal, V.int.injEq, V.str.injEq, V.bl.injEq, wSq, wNext, wBreak, wCont, wDrop, wRet, wRetN, wIfS, wAsg, wPar, wLstOwn, wAppend, wSetOwn, wIxOwn, wPeek, wRetOwn, wRetFr, wFor, wB, wNot, wAnd, wOr, wAndV, wOrV, wNotV, wIf, wChain, wNil, wCons, wCB, wTup, wLst, wNoPart, wPart, wSlT, wSlL, wSeq, wRng1, wRng2, wZip, wName, wNilT, wConsT, wTupT, wYes, wNeg, wVar, wC, wOp, wcNil, wcCons, wcOwn, wCall, wCallOwn, slots, cellsOf, OwnArgs, putBack, g2I, g2IC, gLen, gAbs, gGcd, gInt1, gTupleOf, gListOf, gIx, gCatT, gCat, gEq, gNe, gIsN, gNotN, scD, seqD_t, seqD_l, seqD_f, isNonD, List.nodup_cons, List.mem_cons, List.not_mem_nil, or_false, not_false_eq_true, Nat.reduceEqDiff, L3.Keeps, ends, wipeD, List.replicate, List.cons_append, List.nil_append, List.append_nil, List.getElem?_cons_zero, List.getElem?_cons_succ, List.set_cons_zero, List.set_cons_succ, List.getD_cons_zero, List.getD_cons_succ, List.length_cons, List.length_nil, List.nodup_nil, Option.some.injEq, Cell.dat.injEq, Cell.own.injEq, Cont.lst.injEq, D.bl.injEq, D.int.injEq, D.str.injEq, D.tup.injEq, D.lst.injEq, Arg.d.injEq, List.cons.injEq, exists_and_left, exists_and_right, exists_eq_left', exists_eq_left, exists_eq_right, exists_eq_right', exists_eq, exists_eq', and_true, true_and, and_assoc, and_self, exists_const, reduceCtorEq]
  exact hq c2 hc2
theorem ok__law_one_right (T : Txt K mg) : FnOk P w K mg base (L2.CX P w) 8 T.f__law_one_right T.fd__law_one_right ["pool"] (spOf K 1 (fs__law_one_right K T.Z)) := by
  refine def_ok T.F__law_one_right sc__law_one_right (wb := w__law_one_right K T.Z) pure__law_one_right ?_
  intro cdv A outer s H E hr tk
  exact ⟨_, (pss_cons (ps_set (i := 1) sc__law_one_right.nd rfl (by first | exact Or.inl rfl | exact Or.inr rfl) (pe_op op_add pe_int (pe_callS (ok__law_draw T) (hr.mono (by decide)) rfl T.g__law_draw T.k__law_draw T.b__law_draw (fun σ => passAt tk σ) (pa_cons (pv 0) (pa_cons pe_int pa_nil)))))
      (pss_cons (ps_set (i := 2) sc__law_one_right.nd rfl (by first | exact Or.inl rfl | exact Or.inr rfl) (pe_op op_add pe_int (pe_callS (ok__law_draw T) (hr.mono (by decide)) rfl T.g__law_draw T.k__law_draw T.b__law_draw (fun σ => passAt tk σ) (pa_cons (pv 0) (pa_cons pe_int pa_nil)))))
      (pss_cons (ps_set (i := 3) sc__law_one_right.nd rfl (by first | exact Or.inl rfl | exact Or.inr rfl) (pe_callTy call_tuple_of (by rfl) T.z_tuple (by decide +kernel) (pa_cons (pe_lc (own := [("number", 4)]) (g := (gName 4)) (tt := tYes) (te := (tTup (tCons (tOp rAddI (tOp rMulA (tVar 4) (tVar 1)) (tC (.int 1))) (tCons (tC (.int 1)) tNil)))) rfl sc__law_one_right.nd (pi_range2 (by rfl) T.z_range (pa_cons pe_int (pa_cons (pe_op op_add (pv 2) pe_int) pa_nil))) (blkOk_by (N := ["pool", "cap", "many", "good", "number", "bad", "joins", "one", "other"]) (sc := defScope s__law_one_right) (by decide +kernel)) (fun _ _ _ _ _ => (pg_name (i := 4) sc__law_one_right.nd rfl (by first | exact Or.inl rfl | exact Or.inr rfl))) (fun _ _ _ _ _ => pts_nil) (fun _ _ _ _ _ => (pe_tup (pa_cons (pe_op op_add (pe_op op_mulA (pv 4) (pv 1)) pe_int) (pa_cons pe_int pa_nil))))) pa_nil)))
      (pss_cons (ps_set (i := 5) sc__law_one_right.nd rfl (by first | exact Or.inl rfl | exact Or.inr rfl) (pe_callTy call_tuple_of (by rfl) T.z_tuple (by decide +kernel) (pa_cons (pe_lc (own := [("number", 4)]) (g := (gName 4)) (tt := tYes) (te := (tTup (tCons (tOp rMulA (tVar 4) (tVar 1)) (tCons (tC (.int 1)) tNil)))) rfl sc__law_one_right.nd (pi_range2 (by rfl) T.z_range (pa_cons pe_int (pa_cons (pe_op op_add (pv 2) pe_int) pa_nil))) (blkOk_by (N := ["pool", "cap", "many", "good", "number", "bad", "joins", "one", "other"]) (sc := defScope s__law_one_right) (by decide +kernel)) (fun _ _ _ _ _ => (pg_name (i := 4) sc__law_one_right.nd rfl (by first | exact Or.inl rfl | exact Or.inr rfl))) (fun _ _ _ _ _ => pts_nil) (fun _ _ _ _ _ => (pe_tup (pa_cons (pe_op op_mulA (pv 4) (pv 1)) (pa_cons pe_int pa_nil))))) pa_nil)))
      (pss_cons (ps_set (i := 6) sc__law_one_right.nd rfl (by first | exact Or.inl rfl | exact Or.inr rfl) (pe_tup (pa_cons (pe_tup (pa_cons pe_int (pa_cons pe_int pa_nil))) pa_nil)))
      (pss_cons (ps_set (i := 7) sc__law_one_right.nd rfl (by first | exact Or.inl rfl | exact Or.inr rfl) (pe_make T.cm_Book (ok_Book__init__ T) (hr.mono (by decide)) rfl T.gc_Book T.b_Book__init__ .nil (passF tk) (pa_cons (pe_tup (pa_cons (pe_tup (pa_cons pe_int (pa_cons (pv 1) pa_nil))) pa_nil)) (pa_cons (pe_tup (pa_cons (pe_tup (pa_cons (pv 3) (pa_cons (pv 6) pa_nil))) pa_nil)) pa_nil))))
      (pss_cons (ps_set (i := 8) sc__law_one_right.nd rfl (by first | exact Or.inl rfl | exact Or.inr rfl) (pe_make T.cm_Book (ok_Book__init__ T) (hr.mono (by decide)) rfl T.gc_Book T.b_Book__init__ .nil (passF tk) (pa_cons (pe_tup (pa_cons (pe_tup (pa_cons pe_int (pa_cons (pv 1) pa_nil))) pa_nil)) (pa_cons (pe_tup (pa_cons (pe_tup (pa_cons (pv 5) (pa_cons (pv 6) pa_nil))) pa_nil)) pa_nil))))
      (pss_cons (ps_if (PW.pt (pw_or (pt_cmpR (op_neD hr.units) (pe_callS (ok_room T) (hr.mono (by decide)) rfl T.g_room T.k_room T.b_room (fun σ => passAt tk σ) (pa_cons (pv 7) (pa_cons pe_int (pa_cons pe_int pa_nil)))) (pe_tup (pa_cons (pe_op op_mulA pe_int (pv 1)) (pa_cons pe_int pa_nil))) (nomark _)) (pw_or (pt_cmpR op_notB (pe_callS (ok_calm T) (hr.mono (by decide)) rfl T.g_calm T.k_calm T.b_calm (fun σ => passAt tk σ) (pa_cons (pv 7) pa_nil)) pe_bl (nomark _)) (pw_or1 (pt_cmpR op_notN (pe_callS (ok_breach T) (hr.mono (by decide)) rfl T.g_breach T.k_breach T.b_breach (fun σ => passAt tk σ) (pa_cons (pv 7) pa_nil)) pe_non (nomark _))))))
        (pss_one (ps_ret pe_bl))
        pss_nil)
      (pss_cons (ps_if (PW.pt (pw_or (pt_cmpR (op_neD hr.units) (pe_callS (ok_loss T) (hr.mono (by decide)) rfl T.g_loss T.k_loss T.b_loss (fun σ => passAt tk σ) (pa_cons (pv 7) pa_nil)) (pe_tup (pa_cons pe_int (pa_cons pe_int pa_nil))) (nomark _)) (pw_or1 (pt_cmpR op_notB (pe_callS (ok_calm_singly T) (hr.mono (by decide)) rfl T.g_calm_singly T.k_calm_singly T.b_calm_singly (fun σ => passAt tk σ) (pa_cons (pv 7) pa_nil)) pe_bl (nomark _)))))
        (pss_one (ps_ret pe_bl))
        pss_nil)
      (pss_cons (ps_if (PW.pt (pw_or (pt_cmpR op_notB (pe_callS (ok_calm T) (hr.mono (by decide)) rfl T.g_calm T.k_calm T.b_calm (fun σ => passAt tk σ) (pa_cons (pv 8) pa_nil)) pe_bl (nomark _)) (pw_or1 (pt_cmpR (op_neD hr.units) (pe_callS (ok_breach T) (hr.mono (by decide)) rfl T.g_breach T.k_breach T.b_breach (fun σ => passAt tk σ) (pa_cons (pv 8) pa_nil)) (pe_tup (pa_cons pe_int (pa_cons (pe_tup (pa_cons pe_int (pa_cons pe_int pa_nil))) (pa_cons (pe_tup (pa_cons (pv 1) (pa_cons pe_int pa_nil))) pa_nil)))) (nomark _)))))
        (pss_one (ps_ret pe_bl))
        pss_nil)
      (pss_one (ps_ret (pe_callS (ok__law_flag T) (hr.mono (by decide)) rfl T.g__law_flag T.k__law_flag T.b__law_flag (fun σ => passAt tk σ) (pa_cons (pe_callS (ok_calm_singly T) (hr.mono (by decide)) rfl T.g_calm_singly T.k_calm_singly T.b_calm_singly (fun σ => passAt tk σ) (pa_cons (pv 8) pa_nil)) (pa_cons (pe_cmpR op_gt (pv 1) pe_int (nomark _)) pa_nil))))))))))))))),
    (ds_seq (ds_asg (de_op o_add de_int (de_call (n := 2) (fs := fs__law_draw K) (dac_own (j := 0) (dac_cons de_int dac_nil)))) (dg_name 1))
      (ds_seq (ds_asg (de_op o_add de_int (de_call (n := 2) (fs := fs__law_draw K) (dac_own (j := 0) (dac_cons de_int dac_nil)))) (dg_name 2))
      (ds_seq (ds_asg (de_cb o_tupleOf (da_cons (de_lc (vs := [4]) (wI := (wRng2 (wCons (wC (.int 1)) (wCons (wOp gAddI (wVar 2) (wC (.int 1))) wNil)))) (wg := (wName 4)) (wt := wYes) (we := (wTup (wCons (wOp gAddI (wOp gMulA (wVar 4) (wVar 1)) (wC (.int 1))) (wCons (wC (.int 1)) wNil)))) (di_rng2 (da_cons de_int (da_cons (de_op o_add (de_var 2) de_int) da_nil))) (dg_name 4) dt_yes (de_tup (da_cons (de_op o_add (de_op o_mulA (de_var 4) (de_var 1)) de_int) (da_cons de_int da_nil))) (by decide)) da_nil)) (dg_name 3))
      (ds_seq (ds_asg (de_cb o_tupleOf (da_cons (de_lc (vs := [4]) (wI := (wRng2 (wCons (wC (.int 1)) (wCons (wOp gAddI (wVar 2) (wC (.int 1))) wNil)))) (wg := (wName 4)) (wt := wYes) (we := (wTup (wCons (wOp gMulA (wVar 4) (wVar 1)) (wCons (wC (.int 1)) wNil)))) (di_rng2 (da_cons de_int (da_cons (de_op o_add (de_var 2) de_int) da_nil))) (dg_name 4) dt_yes (de_tup (da_cons (de_op o_mulA (de_var 4) (de_var 1)) (da_cons de_int da_nil))) (by decide)) da_nil)) (dg_name 5))
      (ds_seq (ds_asg (de_tup (da_cons (de_tup (da_cons de_int (da_cons de_int da_nil))) da_nil)) (dg_name 6))
      (ds_seq (ds_asg (de_makeI (n := 2) (fs := fs_Book__init__ K T.Z) (da_cons (de_tup (da_cons (de_tup (da_cons de_int (da_cons (de_var 1) da_nil))) da_nil)) (da_cons (de_tup (da_cons (de_tup (da_cons (de_var 3) (da_cons (de_var 6) da_nil))) da_nil)) da_nil))) (dg_name 7))
      (ds_seq (ds_asg (de_makeI (n := 2) (fs := fs_Book__init__ K T.Z) (da_cons (de_tup (da_cons (de_tup (da_cons de_int (da_cons (de_var 1) da_nil))) da_nil)) (da_cons (de_tup (da_cons (de_tup (da_cons (de_var 5) (da_cons (de_var 6) da_nil))) da_nil)) da_nil))) (dg_name 8))
      (ds_seq (ds_if (dt_or (dt_B (de_op o_neD (de_call (n := 3) (fs := fs_room K T.Z) (dac_cons (de_var 7) (dac_cons de_int (dac_cons de_int dac_nil)))) (de_tup (da_cons (de_op o_mulA de_int (de_var 1)) (da_cons de_int da_nil))))) (dt_or (dt_B (de_op o_notB (de_call (n := 1) (fs := fs_calm K T.Z) (dac_cons (de_var 7) dac_nil)) de_bl)) (dt_B (de_op o_notN (de_call (n := 1) (fs := fs_breach K T.Z) (dac_cons (de_var 7) dac_nil)) de_non)))) (ds_ret de_bl) ds_nil)
      (ds_seq (ds_if (dt_or (dt_B (de_op o_neD (de_call (n := 1) (fs := fs_loss K T.Z) (dac_cons (de_var 7) dac_nil)) (de_tup (da_cons de_int (da_cons de_int da_nil))))) (dt_B (de_op o_notB (de_call (n := 1) (fs := fs_calm_singly K T.Z) (dac_cons (de_var 7) dac_nil)) de_bl))) (ds_ret de_bl) ds_nil)
      (ds_seq (ds_if (dt_or (dt_B (de_op o_notB (de_call (n := 1) (fs := fs_calm K T.Z) (dac_cons (de_var 8) dac_nil)) de_bl)) (dt_B (de_op o_neD (de_call (n := 1) (fs := fs_breach K T.Z) (dac_cons (de_var 8) dac_nil)) (de_tup (da_cons de_int (da_cons (de_tup (da_cons de_int (da_cons de_int da_nil))) (da_cons (de_tup (da_cons (de_var 1) (da_cons de_int da_nil))) da_nil))))))) (ds_ret de_bl) ds_nil)
      (ds_ret (de_call (n := 2) (fs := fs__law_flag K) (dac_cons (de_call (n := 1) (fs := fs_calm_singly K T.Z) (dac_cons (de_var 8) dac_nil)) (dac_cons (de_op o_gt (de_var 1) de_int) dac_nil))))))))))))))⟩
abbrev s__law_sea_right : Stmt := topS 64
theorem sc__law_sea_right : FnScope ["pool", "width", "cap", "many", "tops", "number", "good", "top", "sorts", "joins", "book", "bad"] ["pool"] (defScope s__law_sea_right) := ⟨rfl, rfl, rfl, by decide +kernel, rfl, by decide +kernel, by decide +kernel⟩
def c1__law_sea_right (K : PySem.W.Frag) (Z : CT) : EW := wLc (wRng2 (wCons (wC (.int 1)) (wCons (wOp gAddI (wVar 3) (wC (.int 1))) wNil))) (wName 5) wYes (wOp gAddI (wOp gDivW (wOp gMulA (wVar 5) (wVar 2)) (wC (.int 2))) (wC (.int 1))) [5]
def c2__law_sea_right (K : PySem.W.Frag) (Z : CT) : EW := wLc (wSeq (wVar 4)) (wName 7) wYes (wCall 2 (fs__law_lowest K) (wcCons (wVar 7) (wcCons (wVar 1) wcNil))) [7]
def t9__law_sea_right (K : PySem.W.Frag) (Z : CT) : SW := (wSq (wAsg (wTup (wCons (wCall 2 (fs__law_lowest K) (wcCons (wOp gDivW (wVar 2) (wC (.int 2))) (wcCons (wVar 1) wcNil))) wNil)) (wName 11))
  (wRet (wOp gEqD (wCall 1 (fs_breach K Z) (wcCons (wMkI Z.C_Book 2 (fs_Book__init__ K Z) (wCons (wVar 8) (wCons (wTup (wCons (wTup (wCons (wVar 11) (wCons (wVar 9) wNil))) wNil)) wNil))) wcNil)) (wTup (wCons (wC (.int 0)) (wCons (wTup (wCons (wC (.int 0)) (wCons (wC (.int 1)) wNil))) (wCons (wOp gIx (wVar 11) (wC (.int 0))) wNil)))))))
def t8__law_sea_right (K : PySem.W.Frag) (Z : CT) : SW := (wSq (wIfS (wB (wOp gEq (wVar 2) (wC (.int 1)))) (wRet (wOp gIsN (wCall 1 (fs_breach K Z) (wcCons (wVar 10) wcNil)) (wC .non))) wNext)
  (t9__law_sea_right K Z))
def t7__law_sea_right (K : PySem.W.Frag) (Z : CT) : SW := (wSq (wIfS (wOr (wB (wOp gNeD (wCall 3 (fs_room K Z) (wcCons (wVar 10) (wcCons (wC (.int 0)) (wcCons (wC (.int 1)) wcNil)))) (wCall 2 (fs__law_lowest K) (wcCons (wVar 2) (wcCons (wVar 1) wcNil))))) (wB (wOp gNotB (wCall 1 (fs_calm K Z) (wcCons (wVar 10) wcNil)) (wC (.bl true))))) (wRet (wC (.bl false))) wNext)
  (t8__law_sea_right K Z))
def t5__law_sea_right (K : PySem.W.Frag) (Z : CT) : SW := (wSq (wPar 8 9 (wCons (wTup (wCons (wTup (wCons (wC (.int 0)) (wCons (wOp gAddI (wC (.int 1)) (wCall 2 (fs__law_draw K) (wcOwn 0 (wcCons (wC (.int 6)) wcNil)))) wNil))) (wCons (wTup (wCons (wVar 1) (wCons (wVar 2) wNil))) wNil))) (wCons (wTup (wCons (wTup (wCons (wC (.int 0)) (wCons (wC (.int 1)) wNil))) wNil)) wNil)))
  (wSq (wAsg (wMkI Z.C_Book 2 (fs_Book__init__ K Z) (wCons (wVar 8) (wCons (wTup (wCons (wTup (wCons (wCall 1 (fs__law_ascending K) (wcCons (wVar 6) wcNil)) (wCons (wVar 9) wNil))) wNil)) wNil))) (wName 10))
  (t7__law_sea_right K Z)))
def t4__law_sea_right (K : PySem.W.Frag) (Z : CT) : SW := (wSq (wAsg (wCB gTupleOf (wCons (c2__law_sea_right K Z) wNil)) (wName 6))
  (t5__law_sea_right K Z))
def t3__law_sea_right (K : PySem.W.Frag) (Z : CT) : SW := (wSq (wAsg (c1__law_sea_right K Z) (wName 4))
  (t4__law_sea_right K Z))
def w__law_sea_right (K : PySem.W.Frag) (Z : CT) : SW := (wSq (wAsg (wOp gAddI (wC (.int 1)) (wCall 2 (fs__law_draw K) (wcOwn 0 (wcCons (wC (.int 12)) wcNil)))) (wName 1))
  (wSq (wAsg (wOp gAddI (wC (.int 1)) (wCall 2 (fs__law_draw K) (wcOwn 0 (wcCons (wC (.int 6)) wcNil)))) (wName 2))
  (wSq (wAsg (wOp gAddI (wC (.int 1)) (wCall 2 (fs__law_draw K) (wcOwn 0 (wcCons (wC (.int 6)) wcNil)))) (wName 3))
  (t3__law_sea_right K Z))))
theorem leT_anti {a b : Th} (ha : ThOk a) (hb : ThOk b) (h1 : leT a b) (h2 : leT b a) : a = b := by
  have e : a.1 * b.2 = b.1 * a.2 := Int.le_antisymm h1 h2
  have ga : Nat.gcd a.1.natAbs a.2.natAbs = 1 := by
    have := ha
    unfold ThOk at this
    simp only [thD, isTh, isFr, Bool.and_eq_true, decide_eq_true_eq] at this
    exact this.1.1.1.2
  have gb : Nat.gcd b.1.natAbs b.2.natAbs = 1 := by
    have := hb
    unfold ThOk at this
    simp only [thD, isTh, isFr, Bool.and_eq_true, decide_eq_true_eq] at this
    exact this.1.1.1.2
  have := nf_eq (t := a.1) (b := a.2) (t' := b.1) (b' := b.2) (by have := ha.b; omega) (by have := hb.b; omega) e
  rw [nf_self ga, nf_self gb] at this
  exact thD_inj this
theorem asc_self {us ts : List Th} (hp : us.Perm ts) (h1 : us.Pairwise leT) (h2 : ts.Pairwise leT) (ht : ∀ t ∈ ts, ThOk t) : us = ts :=
  List.Perm.eq_of_pairwise (le := leT) (fun a b ma mb => leT_anti (ht a (hp.mem_iff.mp ma)) (ht b mb)) h1 h2 hp
def s2 (w c k : Nat) : List So := [(0, 1 + (k : Int)), (1 + (w : Int), 1 + (c : Int))]
def k2 (ts : List Th) : List Ki := [(ts, [(0, 1)])]
def tops2 (c m : Nat) : List Int := (List.range (m + 1)).map fun (i : Nat) => (1 + (i : Int)) * (1 + (c : Int)) / 2 + 1
def good2 (w c m : Nat) : List Th := (tops2 c m).map fun t => nfT t (1 + (w : Int))
def bad2 (w c : Nat) : List Th := [nfT ((1 + (c : Int)) / 2) (1 + (w : Int))]
def chk2 (w c k m : Nat) : Bool := bkB (s2 w c k) (k2 (good2 w c m)) && tsB (good2 w c m) && decide (nfT (roomN (0, 1 + (k : Int)) (1 + (w : Int), 1 + (c : Int))).1 (roomN (0, 1 + (k : Int)) (1 + (w : Int), 1 + (c : Int))).2 = nfT (1 + (c : Int)) (1 + (w : Int))) && calmB (s2 w c k) (k2 (good2 w c m)) &&
  (firstK (s2 w c k) 0 (k2 (good2 w c m))).isNone && decide (grJ (s2 w c k) (0, 1) = 1 + (w : Int))
def chk2b (w c k : Nat) : Bool := decide (c = 0) || bkB (s2 w c k) (k2 (bad2 w c)) && decide (firstK (s2 w c k) 0 (k2 (bad2 w c)) = some (0, (0, 1), (1 + (c : Int)) / 2))
theorem chk2_all : ∀ w ∈ List.range 12, ∀ c ∈ List.range 6, ∀ k ∈ List.range 6, ∀ m ∈ List.range 6, chk2 w c k m = true := by decide +kernel
theorem chk2b_all : ∀ w ∈ List.range 12, ∀ c ∈ List.range 6, ∀ k ∈ List.range 6, chk2b w c k = true := by decide +kernel
def InvSeaA (f : Nat → Int) (σ : List Cell) (i : Nat) (acc : List D) (τ : List Cell) : Prop := acc = ((List.range i).map f).map D.int ∧ τ = σ
theorem c1__law_sea_right_ok {Z : CT} {c0 c1 c4 c5 c6 c7 c8 c9 c10 c11 : Cell} {n m : Nat} {q : D → List Cell → Prop} {e : Xn → List Cell → Prop} (n6 : n < 6) (m6 : m < 6)
    (hq : q (.lst ((tops2 n m).map D.int)) [c0, c1, .dat (.int (1 + (n : Int))), .dat (.int (1 + (m : Int))), c4, .any, c6, c7, c8, c9, c10, c11]) : c1__law_sea_right K Z [c0, c1, .dat (.int (1 + (n : Int))), .dat (.int (1 + (m : Int))), c4, c5, c6, c7, c8, c9, c10, c11] q e := by
  unfold c1__law_sea_right wLc
  simp only [gIsB, gNotB, D.adr.injEq, Cont.pool.injEq, ixN31, ne_eq, List.map_cons, List.map_nil, wPoolOpen, wPoolClose, wPop0, wPopTo, wListOwn, wRemove, wRaise0, wRaise1, wAugOwn, wEnumL, wTru, wSlA, gCatA, gLtT, gLeT, wFrz, wChain3, wAttr, wMkF, wEnumT, wRevT, wDict0, wDict1, numD3, Nat.reduceAdd, atI0, atI1, atI2, atI3, atI4, ixN51, ixN52, ixN53, List.length_map, wNever, scal, V.int.injEq, V.str.injEq, V.bl.injEq, wSq, wNext, wBreak, wCont, wDrop, wRet, wRetN, wIfS, wAsg, wPar, wLstOwn, wAppend, wSetOwn, wIxOwn, wPeek, wRetOwn, wRetFr, wFor, wB, wNot, wAnd, wOr, wAndV, wOrV, wNotV, wIf, wChain, wNil, wCons, wCB, wTup, wLst, wNoPart, wPart, wSlT, wSlL, wSeq, wRng1, wRng2, wZip, wName, wNilT, wConsT, wTupT, wYes, wNeg, wVar, wC, wOp, wcNil, wcCons, wcOwn, wCall, wCallOwn, slots, cellsOf, OwnArgs, putBack, g2I, g2IC, gLen, gAbs, gGcd, gInt1, gTupleOf, gListOf, gIx, gCatT, gCat, gEq, gNe, gIsN, gNotN, scD, seqD_t, seqD_l, seqD_f, isNonD, List.nodup_cons, List.mem_cons, List.not_mem_nil, or_false, not_false_eq_true, Nat.reduceEqDiff, L3.Keeps, ends, wipeD, List.replicate, List.cons_append, List.nil_append, List.append_nil, List.getElem?_cons_zero, List.getElem?_cons_succ, List.set_cons_zero, List.set_cons_succ, List.getD_cons_zero, List.getD_cons_succ, List.length_cons, List.length_nil, List.nodup_nil, Option.some.injEq, Cell.dat.injEq, Cell.own.injEq, Cont.lst.injEq, D.bl.injEq, D.int.injEq, D.str.injEq, D.tup.injEq, D.lst.injEq, Arg.d.injEq, List.cons.injEq, exists_and_left, exists_and_right, exists_eq_left', exists_eq_left, exists_eq_right, exists_eq_right', exists_eq, exists_eq', and_true, true_and, and_assoc, and_self, exists_const, reduceCtorEq]
  refine ⟨by decide, by decide, by omega, by omega, by rw [rangeD_length]; omega, InvSeaA (fun i => (1 + (i : Int)) * (1 + (n : Int)) / 2 + 1) [c0, c1, .dat (.int (1 + (n : Int))), .dat (.int (1 + (m : Int))), c4, .any, c6, c7, c8, c9, c10, c11], ⟨rfl, rfl⟩, ?_, ?_⟩
  · rintro i d acc τ2 hd ⟨rfl, rfl⟩ -
    have hi := (List.getElem?_eq_some_iff.mp hd).1
    rw [rangeD_length] at hi
    rw [rangeD_get hi] at hd
    cases hd
    simp only [gIsB, gNotB, D.adr.injEq, Cont.pool.injEq, ixN31, ne_eq, List.map_cons, List.map_nil, wPoolOpen, wPoolClose, wPop0, wPopTo, wListOwn, wRemove, wRaise0, wRaise1, wAugOwn, wEnumL, wTru, wSlA, gCatA, gLtT, gLeT, wFrz, wChain3, wAttr, wMkF, wEnumT, wRevT, wDict0, wDict1, numD3, Nat.reduceAdd, atI0, atI1, atI2, atI3, atI4, ixN51, ixN52, ixN53, List.length_map, wNever, scal, V.int.injEq, V.str.injEq, V.bl.injEq, wSq, wNext, wBreak, wCont, wDrop, wRet, wRetN, wIfS, wAsg, wPar, wLstOwn, wAppend, wSetOwn, wIxOwn, wPeek, wRetOwn, wRetFr, wFor, wB, wNot, wAnd, wOr, wAndV, wOrV, wNotV, wIf, wChain, wNil, wCons, wCB, wTup, wLst, wNoPart, wPart, wSlT, wSlL, wSeq, wRng1, wRng2, wZip, wName, wNilT, wConsT, wTupT, wYes, wNeg, wVar, wC, wOp, wcNil, wcCons, wcOwn, wCall, wCallOwn, slots, cellsOf, OwnArgs, putBack, g2I, g2IC, gLen, gAbs, gGcd, gInt1, gTupleOf, gListOf, gIx, gCatT, gCat, gEq, gNe, gIsN, gNotN, scD, seqD_t, seqD_l, seqD_f, isNonD, List.nodup_cons, List.mem_cons, List.not_mem_nil, or_false, not_false_eq_true, Nat.reduceEqDiff, L3.Keeps, ends, wipeD, List.replicate, List.cons_append, List.nil_append, List.append_nil, List.getElem?_cons_zero, List.getElem?_cons_succ, List.set_cons_zero, List.set_cons_succ, List.getD_cons_zero, List.getD_cons_succ, List.length_cons, List.length_nil, List.nodup_nil, Option.some.injEq, Cell.dat.injEq, Cell.own.injEq, Cont.lst.injEq, D.bl.injEq, D.int.injEq, D.str.injEq, D.tup.injEq, D.lst.injEq, Arg.d.injEq, List.cons.injEq, exists_and_left, exists_and_right, exists_eq_left', exists_eq_left, exists_eq_right, exists_eq_right', exists_eq, exists_eq', and_true, true_and, and_assoc, and_self, exists_const, reduceCtorEq]
    refine ⟨fun _ => ⟨cmul_l (by omega) (by omega), divw (by decide) (by decide), ?_, rfl⟩, fun z => z.elim⟩
    rw [List.range_succ, List.map_append, List.map_append]
    rfl
  · rintro acc τ2 ⟨rfl, e⟩ -
    rw [e]
    have : (rangeD 1 (1 + (m : Int) + 1 - 1).toNat).length = m + 1 := by rw [rangeD_length]; omega
    rw [this]
    exact hq
def InvSeaB (ts : List Int) (w : Int) (σ : List Cell) (i : Nat) (acc : List D) (τ : List Cell) : Prop := acc = ((ts.take i).map fun t => nfT t w).map thD ∧ τ = σ
theorem c2__law_sea_right_ok {Z : CT} {c0 c2 c3 c5 c6 c7 c8 c9 c10 c11 : Cell} {w : Nat} {ts : List Int} {q : D → List Cell → Prop} {e : Xn → List Cell → Prop} (w12 : w < 12) (hl : ts.length ≤ 900)
    (hq : q (.lst ((ts.map fun t => nfT t (1 + (w : Int))).map thD)) [c0, .dat (.int (1 + (w : Int))), c2, c3, .dat (.lst (ts.map D.int)), c5, c6, .any, c8, c9, c10, c11]) : c2__law_sea_right K Z [c0, .dat (.int (1 + (w : Int))), c2, c3, .dat (.lst (ts.map D.int)), c5, c6, c7, c8, c9, c10, c11] q e := by
  unfold c2__law_sea_right wLc
  simp only [fs__law_lowest, gIsB, gNotB, D.adr.injEq, Cont.pool.injEq, ixN31, ne_eq, List.map_cons, List.map_nil, wPoolOpen, wPoolClose, wPop0, wPopTo, wListOwn, wRemove, wRaise0, wRaise1, wAugOwn, wEnumL, wTru, wSlA, gCatA, gLtT, gLeT, wFrz, wChain3, wAttr, wMkF, wEnumT, wRevT, wDict0, wDict1, numD3, Nat.reduceAdd, atI0, atI1, atI2, atI3, atI4, ixN51, ixN52, ixN53, List.length_map, wNever, scal, V.int.injEq, V.str.injEq, V.bl.injEq, wSq, wNext, wBreak, wCont, wDrop, wRet, wRetN, wIfS, wAsg, wPar, wLstOwn, wAppend, wSetOwn, wIxOwn, wPeek, wRetOwn, wRetFr, wFor, wB, wNot, wAnd, wOr, wAndV, wOrV, wNotV, wIf, wChain, wNil, wCons, wCB, wTup, wLst, wNoPart, wPart, wSlT, wSlL, wSeq, wRng1, wRng2, wZip, wName, wNilT, wConsT, wTupT, wYes, wNeg, wVar, wC, wOp, wcNil, wcCons, wcOwn, wCall, wCallOwn, slots, cellsOf, OwnArgs, putBack, g2I, g2IC, gLen, gAbs, gGcd, gInt1, gTupleOf, gListOf, gIx, gCatT, gCat, gEq, gNe, gIsN, gNotN, scD, seqD_t, seqD_l, seqD_f, isNonD, List.nodup_cons, List.mem_cons, List.not_mem_nil, or_false, not_false_eq_true, Nat.reduceEqDiff, L3.Keeps, ends, wipeD, List.replicate, List.cons_append, List.nil_append, List.append_nil, List.getElem?_cons_zero, List.getElem?_cons_succ, List.set_cons_zero, List.set_cons_succ, List.getD_cons_zero, List.getD_cons_succ, List.length_cons, List.length_nil, List.nodup_nil, Option.some.injEq, Cell.dat.injEq, Cell.own.injEq, Cont.lst.injEq, D.bl.injEq, D.int.injEq, D.str.injEq, D.tup.injEq, D.lst.injEq, Arg.d.injEq, List.cons.injEq, exists_and_left, exists_and_right, exists_eq_left', exists_eq_left, exists_eq_right, exists_eq_right', exists_eq, exists_eq', and_true, true_and, and_assoc, and_self, exists_const, reduceCtorEq]
  refine ⟨by omega, InvSeaB ts (1 + (w : Int)) [c0, .dat (.int (1 + (w : Int))), c2, c3, .dat (.lst (ts.map D.int)), c5, c6, .any, c8, c9, c10, c11], ⟨rfl, rfl⟩, ?_, ?_⟩
  · rintro i d acc τ2 hd ⟨rfl, rfl⟩ -
    rw [List.getElem?_map] at hd
    obtain ⟨t, et, rfl⟩ := Option.map_eq_some_iff.mp hd
    have tk : ts.take (i + 1) = ts.take i ++ [t] := by rw [List.take_add_one, et]; rfl
    simp only [gIsB, gNotB, D.adr.injEq, Cont.pool.injEq, ixN31, ne_eq, List.map_cons, List.map_nil, wPoolOpen, wPoolClose, wPop0, wPopTo, wListOwn, wRemove, wRaise0, wRaise1, wAugOwn, wEnumL, wTru, wSlA, gCatA, gLtT, gLeT, wFrz, wChain3, wAttr, wMkF, wEnumT, wRevT, wDict0, wDict1, numD3, Nat.reduceAdd, atI0, atI1, atI2, atI3, atI4, ixN51, ixN52, ixN53, List.length_map, wNever, scal, V.int.injEq, V.str.injEq, V.bl.injEq, wSq, wNext, wBreak, wCont, wDrop, wRet, wRetN, wIfS, wAsg, wPar, wLstOwn, wAppend, wSetOwn, wIxOwn, wPeek, wRetOwn, wRetFr, wFor, wB, wNot, wAnd, wOr, wAndV, wOrV, wNotV, wIf, wChain, wNil, wCons, wCB, wTup, wLst, wNoPart, wPart, wSlT, wSlL, wSeq, wRng1, wRng2, wZip, wName, wNilT, wConsT, wTupT, wYes, wNeg, wVar, wC, wOp, wcNil, wcCons, wcOwn, wCall, wCallOwn, slots, cellsOf, OwnArgs, putBack, g2I, g2IC, gLen, gAbs, gGcd, gInt1, gTupleOf, gListOf, gIx, gCatT, gCat, gEq, gNe, gIsN, gNotN, scD, seqD_t, seqD_l, seqD_f, isNonD, List.nodup_cons, List.mem_cons, List.not_mem_nil, or_false, not_false_eq_true, Nat.reduceEqDiff, L3.Keeps, ends, wipeD, List.replicate, List.cons_append, List.nil_append, List.append_nil, List.getElem?_cons_zero, List.getElem?_cons_succ, List.set_cons_zero, List.set_cons_succ, List.getD_cons_zero, List.getD_cons_succ, List.length_cons, List.length_nil, List.nodup_nil, Option.some.injEq, Cell.dat.injEq, Cell.own.injEq, Cont.lst.injEq, D.bl.injEq, D.int.injEq, D.str.injEq, D.tup.injEq, D.lst.injEq, Arg.d.injEq, List.cons.injEq, exists_and_left, exists_and_right, exists_eq_left', exists_eq_left, exists_eq_right, exists_eq_right', exists_eq, exists_eq', and_true, true_and, and_assoc, and_self, exists_const, reduceCtorEq]
    refine ⟨fun _ => ⟨by omega, Nat.lt_of_lt_of_le (show (1 + (w : Int)).natAbs < 2 ^ 8 by omega) (pow_le (by decide)), ?_, rfl⟩, fun z => z.elim⟩
    rw [tk, List.map_append, List.map_append]
    rfl
  · rintro acc τ2 ⟨rfl, e⟩ -
    rw [e]
    have : (ts.map D.int).length = ts.length := List.length_map ..
    simp only [List.length_map, List.take_length]
    exact hq
def fs__law_sea_right (K : PySem.W.Frag) (Z : CT) : FS := fun cs q _ => ∃ (p : Addr) (c : Cont), cs = [.own p c] ∧ PoolC c ∧ ∀ c' : Cont, PoolC c' → q (.bl true) [.own p c']
theorem t7__law_sea_right_ok {Z : CT} {E : EndsD} {c0 c3 c4 c5 c6 c7 c11 : Cell} {w c k m : Nat} (w12 : w < 12) (c6' : c < 6) (k6 : k < 6) (m6 : m < 6)
    (hq : ∀ c11, E.rt (.bl true) [c0, .dat (.int (1 + (w : Int))), .dat (.int (1 + (c : Int))), c3, c4, c5, c6, c7, .dat (sosD (s2 w c k)), .dat (.tup [joD (0, 1)]), .dat (bookI Z (sosD (s2 w c k)) (kisD (k2 (good2 w c m)))), c11]) :
    t7__law_sea_right K Z E [c0, .dat (.int (1 + (w : Int))), .dat (.int (1 + (c : Int))), c3, c4, c5, c6, c7, .dat (sosD (s2 w c k)), .dat (.tup [joD (0, 1)]), .dat (bookI Z (sosD (s2 w c k)) (kisD (k2 (good2 w c m)))), c11] := by
  have hchk := chk2_all w (by simp; omega) c (by simp; omega) k (by simp; omega) m (by simp; omega)
  have hchk2 := chk2b_all w (by simp; omega) c (by simp; omega) k (by simp; omega)
  unfold chk2 at hchk
  unfold chk2b at hchk2
  simp only [Bool.and_eq_true, Bool.or_eq_true, decide_eq_true_eq, Option.isNone_iff_eq_none] at hchk hchk2
  obtain ⟨⟨⟨⟨⟨h1, h2⟩, h3⟩, h4⟩, h5⟩, h6⟩ := hchk
  have g1 := bkB_c h1
  unfold t7__law_sea_right t8__law_sea_right t9__law_sea_right
  simp only [fs_room, fs__law_lowest, fs_calm, fs_breach, wMkI, fs_Book__init__, gIsB, gNotB, D.adr.injEq, Cont.pool.injEq, ixN31, ne_eq, List.map_cons, List.map_nil, wPoolOpen, wPoolClose, wPop0, wPopTo, wListOwn, wRemove, wRaise0, wRaise1, wAugOwn, wEnumL, wTru, wSlA, gCatA, gLtT, gLeT, wFrz, wChain3, wAttr, wMkF, wEnumT, wRevT, wDict0, wDict1, numD3, Nat.reduceAdd, atI0, atI1, atI2, atI3, atI4, ixN51, ixN52, ixN53, List.length_map, wNever, scal, V.int.injEq, V.str.injEq, V.bl.injEq, wSq, wNext, wBreak, wCont, wDrop, wRet, wRetN, wIfS, wAsg, wPar, wLstOwn, wAppend, wSetOwn, wIxOwn, wPeek, wRetOwn, wRetFr, wFor, wB, wNot, wAnd, wOr, wAndV, wOrV, wNotV, wIf, wChain, wNil, wCons, wCB, wTup, wLst, wNoPart, wPart, wSlT, wSlL, wSeq, wRng1, wRng2, wZip, wName, wNilT, wConsT, wTupT, wYes, wNeg, wVar, wC, wOp, wcNil, wcCons, wcOwn, wCall, wCallOwn, slots, cellsOf, OwnArgs, putBack, g2I, g2IC, gLen, gAbs, gGcd, gInt1, gTupleOf, gListOf, gIx, gCatT, gCat, gEq, gNe, gIsN, gNotN, scD, seqD_t, seqD_l, seqD_f, isNonD, List.nodup_cons, List.mem_cons, List.not_mem_nil, or_false, not_false_eq_true, Nat.reduceEqDiff, L3.Keeps, ends, wipeD, List.replicate, List.cons_append, List.nil_append, List.append_nil, List.getElem?_cons_zero, List.getElem?_cons_succ, List.set_cons_zero, List.set_cons_succ, List.getD_cons_zero, List.getD_cons_succ, List.length_cons, List.length_nil, List.nodup_nil, Option.some.injEq, Cell.dat.injEq, Cell.own.injEq, Cont.lst.injEq, D.bl.injEq, D.int.injEq, D.str.injEq, D.tup.injEq, D.lst.injEq, Arg.d.injEq, List.cons.injEq, exists_and_left, exists_and_right, exists_eq_left', exists_eq_left, exists_eq_right, exists_eq_right', exists_eq, exists_eq', and_true, true_and, and_assoc, and_self, exists_const, reduceCtorEq]
  refine ⟨s2 w c k, ⟨_, rfl⟩, int_okd, int_okd, g1.v.s, fun i j s t hi hj es et hp => ?_, fun z => (by cases (show isPair (s2 w c k) (.int 0) (.int 1) = true from rfl).symm.trans z)⟩
  have hi : i = 0 := by omega
  have hj : j = 1 := by omega
  subst hi
  subst hj
  cases (show some ((0 : Int), 1 + (k : Int)) = some s from es)
  cases (show some (1 + (w : Int), 1 + (c : Int)) = some t from et)
  have wb : (1 + (w : Int)).natAbs < 2 ^ 900 := Nat.lt_of_lt_of_le (show (1 + (w : Int)).natAbs < 2 ^ 8 by omega) (pow_le (by decide))
  refine ⟨by omega, wb, ?_⟩
  rw [nfT_eq, nfT_eq, h3]
  refine gNeD_refl (py_th _) (sh_th _) ⟨false, rfl, fun _ => ?_, fun z => (nomatch z)⟩
  refine ⟨s2 w c k, k2 (good2 w c m), rfl, g1.v, fun z => (by rw [h4] at z; simp at z), fun _ => ⟨fun z => ?_, fun z => ?_⟩⟩
  · refine ⟨s2 w c k, k2 (good2 w c m), rfl, g1.v, ?_⟩
    rw [h5]
    exact hq _
  · have z := of_decide_eq_false z
    rcases hchk2 with h | ⟨h7, h8⟩
    · omega
    have g2 := bkB_c h7
    refine ⟨divw (by decide) (by decide), by omega, wb, by decide, by decide, by decide, fun x dx => ⟨dx, rfl, sos_okd, kis_okd (ks := k2 (bad2 w c)), g2.s, fun part z => ?_, fun _ => ⟨_, rfl, s2 w c k, k2 (bad2 w c), rfl, g2.v, ?_⟩⟩⟩
    · cases g2.f.symm.trans z
    refine ⟨by decide, by decide, ?_⟩
    rw [h8]
    obtain ⟨py, hp', hs'⟩ := sh3 0 0 1 (nfT ((1 + (c : Int)) / 2) (1 + (w : Int)))
    have e : brD (s2 w c k) (some (0, (0, 1), (1 + (c : Int)) / 2)) = D.tup [D.int 0, D.tup [D.int 0, D.int 1], nf ((1 + (c : Int)) / 2) (1 + (w : Int))] := by
      show D.tup [D.int 0, D.tup [D.int 0, D.int 1], nf ((1 + (c : Int)) / 2) (grJ (s2 w c k) (0, 1))] = _
      rw [h6]
    rw [e]
    exact gEqD_refl hp' hs' (hq _)
theorem pure__law_sea_right {Z : CT} : PureD 1 11 (fs__law_sea_right K Z) (w__law_sea_right K Z) := by
  rintro cs q e - ⟨p, c, rfl, hc, hq⟩
  simp only [w__law_sea_right, fs__law_draw, gIsB, gNotB, D.adr.injEq, Cont.pool.injEq, ixN31, ne_eq, List.map_cons, List.map_nil, wPoolOpen, wPoolClose, wPop0, wPopTo, wListOwn, wRemove, wRaise0, wRaise1, wAugOwn, wEnumL, wTru, wSlA, gCatA, gLtT, gLeT, wFrz, wChain3, wAttr, wMkF, wEnumT, wRevT, wDict0, wDict1, numD3, Nat.reduceAdd, atI0, atI1, atI2, atI3, atI4, ixN51, ixN52, ixN53, List.length_map, wNever, scal, V.int.injEq, V.str.injEq, V.bl.injEq, wSq, wNext, wBreak, wCont, wDrop, wRet, wRetN, wIfS, wAsg, wPar, wLstOwn, wAppend, wSetOwn, wIxOwn, wPeek, wRetOwn, wRetFr, wFor, wB, wNot, wAnd, wOr, wAndV, wOrV, wNotV, wIf, wChain, wNil, wCons, wCB, wTup, wLst, wNoPart, wPart, wSlT, wSlL, wSeq, wRng1, wRng2, wZip, wName, wNilT, wConsT, wTupT, wYes, wNeg, wVar, wC, wOp, wcNil, wcCons, wcOwn, wCall, wCallOwn, slots, cellsOf, OwnArgs, putBack, g2I, g2IC, gLen, gAbs, gGcd, gInt1, gTupleOf, gListOf, gIx, gCatT, gCat, gEq, gNe, gIsN, gNotN, scD, seqD_t, seqD_l, seqD_f, isNonD, List.nodup_cons, List.mem_cons, List.not_mem_nil, or_false, not_false_eq_true, Nat.reduceEqDiff, L3.Keeps, ends, wipeD, List.replicate, List.cons_append, List.nil_append, List.append_nil, List.getElem?_cons_zero, List.getElem?_cons_succ, List.set_cons_zero, List.set_cons_succ, List.getD_cons_zero, List.getD_cons_succ, List.length_cons, List.length_nil, List.nodup_nil, Option.some.injEq, Cell.dat.injEq, Cell.own.injEq, Cont.lst.injEq, D.bl.injEq, D.int.injEq, D.str.injEq, D.tup.injEq, D.lst.injEq, Arg.d.injEq, List.cons.injEq, exists_and_left, exists_and_right, exists_eq_left', exists_eq_left, exists_eq_right, exists_eq_right', exists_eq, exists_eq', and_true, true_and, and_assoc, and_self, exists_const, reduceCtorEq]
  refine ⟨hc, by decide, by decide, fun c1 w hc1 w0 w12 => ⟨hc1, by decide, by decide, fun c2 c hc2 c0 c6 => ⟨hc2, by decide, by decide, fun c3 m hc3 m0 m6 => ?_⟩⟩⟩
  obtain ⟨w, rfl⟩ := Int.eq_ofNat_of_zero_le w0
  obtain ⟨c, rfl⟩ := Int.eq_ofNat_of_zero_le c0
  obtain ⟨m, rfl⟩ := Int.eq_ofNat_of_zero_le m0
  unfold t3__law_sea_right
  simp only [gIsB, gNotB, D.adr.injEq, Cont.pool.injEq, ixN31, ne_eq, List.map_cons, List.map_nil, wPoolOpen, wPoolClose, wPop0, wPopTo, wListOwn, wRemove, wRaise0, wRaise1, wAugOwn, wEnumL, wTru, wSlA, gCatA, gLtT, gLeT, wFrz, wChain3, wAttr, wMkF, wEnumT, wRevT, wDict0, wDict1, numD3, Nat.reduceAdd, atI0, atI1, atI2, atI3, atI4, ixN51, ixN52, ixN53, List.length_map, wNever, scal, V.int.injEq, V.str.injEq, V.bl.injEq, wSq, wNext, wBreak, wCont, wDrop, wRet, wRetN, wIfS, wAsg, wPar, wLstOwn, wAppend, wSetOwn, wIxOwn, wPeek, wRetOwn, wRetFr, wFor, wB, wNot, wAnd, wOr, wAndV, wOrV, wNotV, wIf, wChain, wNil, wCons, wCB, wTup, wLst, wNoPart, wPart, wSlT, wSlL, wSeq, wRng1, wRng2, wZip, wName, wNilT, wConsT, wTupT, wYes, wNeg, wVar, wC, wOp, wcNil, wcCons, wcOwn, wCall, wCallOwn, slots, cellsOf, OwnArgs, putBack, g2I, g2IC, gLen, gAbs, gGcd, gInt1, gTupleOf, gListOf, gIx, gCatT, gCat, gEq, gNe, gIsN, gNotN, scD, seqD_t, seqD_l, seqD_f, isNonD, List.nodup_cons, List.mem_cons, List.not_mem_nil, or_false, not_false_eq_true, Nat.reduceEqDiff, L3.Keeps, ends, wipeD, List.replicate, List.cons_append, List.nil_append, List.append_nil, List.getElem?_cons_zero, List.getElem?_cons_succ, List.set_cons_zero, List.set_cons_succ, List.getD_cons_zero, List.getD_cons_succ, List.length_cons, List.length_nil, List.nodup_nil, Option.some.injEq, Cell.dat.injEq, Cell.own.injEq, Cont.lst.injEq, D.bl.injEq, D.int.injEq, D.str.injEq, D.tup.injEq, D.lst.injEq, Arg.d.injEq, List.cons.injEq, exists_and_left, exists_and_right, exists_eq_left', exists_eq_left, exists_eq_right, exists_eq_right', exists_eq, exists_eq', and_true, true_and, and_assoc, and_self, exists_const, reduceCtorEq]
  refine c1__law_sea_right_ok (by omega) (by omega) ?_
  simp only [gIsB, gNotB, D.adr.injEq, Cont.pool.injEq, ixN31, ne_eq, List.map_cons, List.map_nil, wPoolOpen, wPoolClose, wPop0, wPopTo, wListOwn, wRemove, wRaise0, wRaise1, wAugOwn, wEnumL, wTru, wSlA, gCatA, gLtT, gLeT, wFrz, wChain3, wAttr, wMkF, wEnumT, wRevT, wDict0, wDict1, numD3, Nat.reduceAdd, atI0, atI1, atI2, atI3, atI4, ixN51, ixN52, ixN53, List.length_map, wNever, scal, V.int.injEq, V.str.injEq, V.bl.injEq, wSq, wNext, wBreak, wCont, wDrop, wRet, wRetN, wIfS, wAsg, wPar, wLstOwn, wAppend, wSetOwn, wIxOwn, wPeek, wRetOwn, wRetFr, wFor, wB, wNot, wAnd, wOr, wAndV, wOrV, wNotV, wIf, wChain, wNil, wCons, wCB, wTup, wLst, wNoPart, wPart, wSlT, wSlL, wSeq, wRng1, wRng2, wZip, wName, wNilT, wConsT, wTupT, wYes, wNeg, wVar, wC, wOp, wcNil, wcCons, wcOwn, wCall, wCallOwn, slots, cellsOf, OwnArgs, putBack, g2I, g2IC, gLen, gAbs, gGcd, gInt1, gTupleOf, gListOf, gIx, gCatT, gCat, gEq, gNe, gIsN, gNotN, scD, seqD_t, seqD_l, seqD_f, isNonD, List.nodup_cons, List.mem_cons, List.not_mem_nil, or_false, not_false_eq_true, Nat.reduceEqDiff, L3.Keeps, ends, wipeD, List.replicate, List.cons_append, List.nil_append, List.append_nil, List.getElem?_cons_zero, List.getElem?_cons_succ, List.set_cons_zero, List.set_cons_succ, List.getD_cons_zero, List.getD_cons_succ, List.length_cons, List.length_nil, List.nodup_nil, Option.some.injEq, Cell.dat.injEq, Cell.own.injEq, Cont.lst.injEq, D.bl.injEq, D.int.injEq, D.str.injEq, D.tup.injEq, D.lst.injEq, Arg.d.injEq, List.cons.injEq, exists_and_left, exists_and_right, exists_eq_left', exists_eq_left, exists_eq_right, exists_eq_right', exists_eq, exists_eq', and_true, true_and, and_assoc, and_self, exists_const, reduceCtorEq]
  unfold t4__law_sea_right
  simp only [gIsB, gNotB, D.adr.injEq, Cont.pool.injEq, ixN31, ne_eq, List.map_cons, List.map_nil, wPoolOpen, wPoolClose, wPop0, wPopTo, wListOwn, wRemove, wRaise0, wRaise1, wAugOwn, wEnumL, wTru, wSlA, gCatA, gLtT, gLeT, wFrz, wChain3, wAttr, wMkF, wEnumT, wRevT, wDict0, wDict1, numD3, Nat.reduceAdd, atI0, atI1, atI2, atI3, atI4, ixN51, ixN52, ixN53, List.length_map, wNever, scal, V.int.injEq, V.str.injEq, V.bl.injEq, wSq, wNext, wBreak, wCont, wDrop, wRet, wRetN, wIfS, wAsg, wPar, wLstOwn, wAppend, wSetOwn, wIxOwn, wPeek, wRetOwn, wRetFr, wFor, wB, wNot, wAnd, wOr, wAndV, wOrV, wNotV, wIf, wChain, wNil, wCons, wCB, wTup, wLst, wNoPart, wPart, wSlT, wSlL, wSeq, wRng1, wRng2, wZip, wName, wNilT, wConsT, wTupT, wYes, wNeg, wVar, wC, wOp, wcNil, wcCons, wcOwn, wCall, wCallOwn, slots, cellsOf, OwnArgs, putBack, g2I, g2IC, gLen, gAbs, gGcd, gInt1, gTupleOf, gListOf, gIx, gCatT, gCat, gEq, gNe, gIsN, gNotN, scD, seqD_t, seqD_l, seqD_f, isNonD, List.nodup_cons, List.mem_cons, List.not_mem_nil, or_false, not_false_eq_true, Nat.reduceEqDiff, L3.Keeps, ends, wipeD, List.replicate, List.cons_append, List.nil_append, List.append_nil, List.getElem?_cons_zero, List.getElem?_cons_succ, List.set_cons_zero, List.set_cons_succ, List.getD_cons_zero, List.getD_cons_succ, List.length_cons, List.length_nil, List.nodup_nil, Option.some.injEq, Cell.dat.injEq, Cell.own.injEq, Cont.lst.injEq, D.bl.injEq, D.int.injEq, D.str.injEq, D.tup.injEq, D.lst.injEq, Arg.d.injEq, List.cons.injEq, exists_and_left, exists_and_right, exists_eq_left', exists_eq_left, exists_eq_right, exists_eq_right', exists_eq, exists_eq', and_true, true_and, and_assoc, and_self, exists_const, reduceCtorEq]
  refine c2__law_sea_right_ok (by omega) (by unfold tops2; simp; omega) ?_
  simp only [gIsB, gNotB, D.adr.injEq, Cont.pool.injEq, ixN31, ne_eq, List.map_cons, List.map_nil, wPoolOpen, wPoolClose, wPop0, wPopTo, wListOwn, wRemove, wRaise0, wRaise1, wAugOwn, wEnumL, wTru, wSlA, gCatA, gLtT, gLeT, wFrz, wChain3, wAttr, wMkF, wEnumT, wRevT, wDict0, wDict1, numD3, Nat.reduceAdd, atI0, atI1, atI2, atI3, atI4, ixN51, ixN52, ixN53, List.length_map, wNever, scal, V.int.injEq, V.str.injEq, V.bl.injEq, wSq, wNext, wBreak, wCont, wDrop, wRet, wRetN, wIfS, wAsg, wPar, wLstOwn, wAppend, wSetOwn, wIxOwn, wPeek, wRetOwn, wRetFr, wFor, wB, wNot, wAnd, wOr, wAndV, wOrV, wNotV, wIf, wChain, wNil, wCons, wCB, wTup, wLst, wNoPart, wPart, wSlT, wSlL, wSeq, wRng1, wRng2, wZip, wName, wNilT, wConsT, wTupT, wYes, wNeg, wVar, wC, wOp, wcNil, wcCons, wcOwn, wCall, wCallOwn, slots, cellsOf, OwnArgs, putBack, g2I, g2IC, gLen, gAbs, gGcd, gInt1, gTupleOf, gListOf, gIx, gCatT, gCat, gEq, gNe, gIsN, gNotN, scD, seqD_t, seqD_l, seqD_f, isNonD, List.nodup_cons, List.mem_cons, List.not_mem_nil, or_false, not_false_eq_true, Nat.reduceEqDiff, L3.Keeps, ends, wipeD, List.replicate, List.cons_append, List.nil_append, List.append_nil, List.getElem?_cons_zero, List.getElem?_cons_succ, List.set_cons_zero, List.set_cons_succ, List.getD_cons_zero, List.getD_cons_succ, List.length_cons, List.length_nil, List.nodup_nil, Option.some.injEq, Cell.dat.injEq, Cell.own.injEq, Cont.lst.injEq, D.bl.injEq, D.int.injEq, D.str.injEq, D.tup.injEq, D.lst.injEq, Arg.d.injEq, List.cons.injEq, exists_and_left, exists_and_right, exists_eq_left', exists_eq_left, exists_eq_right, exists_eq_right', exists_eq, exists_eq', and_true, true_and, and_assoc, and_self, exists_const, reduceCtorEq]
  unfold t5__law_sea_right
  simp only [fs__law_draw, fs__law_ascending, wMkI, fs_Book__init__, gIsB, gNotB, D.adr.injEq, Cont.pool.injEq, ixN31, ne_eq, List.map_cons, List.map_nil, wPoolOpen, wPoolClose, wPop0, wPopTo, wListOwn, wRemove, wRaise0, wRaise1, wAugOwn, wEnumL, wTru, wSlA, gCatA, gLtT, gLeT, wFrz, wChain3, wAttr, wMkF, wEnumT, wRevT, wDict0, wDict1, numD3, Nat.reduceAdd, atI0, atI1, atI2, atI3, atI4, ixN51, ixN52, ixN53, List.length_map, wNever, scal, V.int.injEq, V.str.injEq, V.bl.injEq, wSq, wNext, wBreak, wCont, wDrop, wRet, wRetN, wIfS, wAsg, wPar, wLstOwn, wAppend, wSetOwn, wIxOwn, wPeek, wRetOwn, wRetFr, wFor, wB, wNot, wAnd, wOr, wAndV, wOrV, wNotV, wIf, wChain, wNil, wCons, wCB, wTup, wLst, wNoPart, wPart, wSlT, wSlL, wSeq, wRng1, wRng2, wZip, wName, wNilT, wConsT, wTupT, wYes, wNeg, wVar, wC, wOp, wcNil, wcCons, wcOwn, wCall, wCallOwn, slots, cellsOf, OwnArgs, putBack, g2I, g2IC, gLen, gAbs, gGcd, gInt1, gTupleOf, gListOf, gIx, gCatT, gCat, gEq, gNe, gIsN, gNotN, scD, seqD_t, seqD_l, seqD_f, isNonD, List.nodup_cons, List.mem_cons, List.not_mem_nil, or_false, not_false_eq_true, Nat.reduceEqDiff, L3.Keeps, ends, wipeD, List.replicate, List.cons_append, List.nil_append, List.append_nil, List.getElem?_cons_zero, List.getElem?_cons_succ, List.set_cons_zero, List.set_cons_succ, List.getD_cons_zero, List.getD_cons_succ, List.length_cons, List.length_nil, List.nodup_nil, Option.some.injEq, Cell.dat.injEq, Cell.own.injEq, Cont.lst.injEq, D.bl.injEq, D.int.injEq, D.str.injEq, D.tup.injEq, D.lst.injEq, Arg.d.injEq, List.cons.injEq, exists_and_left, exists_and_right, exists_eq_left', exists_eq_left, exists_eq_right, exists_eq_right', exists_eq, exists_eq', and_true, true_and, and_assoc, and_self, exists_const, reduceCtorEq]
  refine ⟨hc3, by decide, by decide, fun c4 k hc4 k0 k6 => ?_⟩
  obtain ⟨k, rfl⟩ := Int.eq_ofNat_of_zero_le k0
  have hchk := chk2_all w (by simp; omega) c (by simp; omega) k (by simp; omega) m (by simp; omega)
  unfold chk2 at hchk
  simp only [Bool.and_eq_true] at hchk
  obtain ⟨⟨⟨⟨⟨h1, h2⟩, -⟩, -⟩, -⟩, -⟩ := hchk
  have g1 := bkB_c h1
  have ht := tsB_v h2
  refine ⟨by decide, by decide, by decide, by decide, by decide, good2 w c m, rfl, by have := ht.2.1; omega, ht.2.2.1, fun us hp hs => ?_⟩
  have eu := asc_self hp hs ht.2.2.2 ht.2.2.1
  subst eu
  refine ⟨by decide, by decide, fun x dx => ⟨dx, rfl, sos_okd (ss := s2 w c k), kis_okd (ks := k2 (good2 w c m)), g1.s, fun part z => ?_, fun _ => ⟨_, rfl, ?_⟩⟩⟩
  · cases g1.f.symm.trans z
  refine t7__law_sea_right_ok (k := k) (by omega) (by omega) (by omega) (by omega) fun c11 => ?_
  simp only [gIsB, gNotB, D.adr.injEq, Cont.pool.injEq, ixN31, ne_eq, List.map_cons, List.map_nil, wPoolOpen, wPoolClose, wPop0, wPopTo, wListOwn, wRemove, wRaise0, wRaise1, wAugOwn, wEnumL, wTru, wSlA, gCatA, gLtT, gLeT, wFrz, wChain3, wAttr, wMkF, wEnumT, wRevT, wDict0, wDict1, numD3, Nat.reduceAdd, atI0, atI1, atI2, atI3, atI4, ixN51, ixN52, ixN53, List.length_map, wNever, scal, V.int.injEq, V.str.injEq, V.bl.injEq, wSq, wNext, wBreak, wCont, wDrop, wRet, wRetN, wIfS, wAsg, wPar, wLstOwn, wAppend, wSetOwn, wIxOwn, wPeek, wRetOwn, wRetFr, wFor, wB, wNot, wAnd, wOr, wAndV, wOrV, wNotV, wIf, wChain, wNil, wCons, wCB, wTup, wLst, wNoPart, wPart, wSlT, wSlL, wSeq, wRng1, wRng2, wZip, wName, wNilT, wConsT, wTupT, wYes, wNeg, wVar, wC, wOp, wcNil, wcCons, wcOwn, wCall, wCallOwn, slots, cellsOf, OwnArgs, putBack, g2I, g2IC, gLen, gAbs, gGcd, gInt1, gTupleOf, gListOf, gIx, gCatT, gCat, gEq, gNe, gIsN, gNotN, scD, seqD_t, seqD_l, seqD_f, isNonD, List.nodup_cons, List.mem_cons, List.not_mem_nil, or_false, not_false_eq_true, Nat.reduceEqDiff, L3.Keeps, ends, wipeD, List.replicate, List.cons_append, List.nil_append, List.append_nil, List.getElem?_cons_zero, List.getElem?_cons_succ, List.set_cons_zero, List.set_cons_succ, List.getD_cons_zero, List.getD_cons_succ, List.length_cons, List.length_nil, List.nodup_nil, Option.some.injEq, Cell.dat.injEq, Cell.own.injEq, Cont.lst.injEq, D.bl.injEq, D.int.injEq, D.str.injEq, D.tup.injEq, D.lst.injEq, Arg.d.injEq, List.cons.injEq, exists_and_left, exists_and_right, exists_eq_left', exists_eq_left, exists_eq_right, exists_eq_right', exists_eq, exists_eq', and_true, true_and, and_assoc, and_self, exists_const, reduceCtorEq]
  exact hq c4 hc4
theorem ok__law_sea_right (T : Txt K mg) : FnOk P w K mg base (L2.CX P w) 8 T.f__law_sea_right T.fd__law_sea_right ["pool"] (spOf K 1 (fs__law_sea_right K T.Z)) := by
  refine def_ok T.F__law_sea_right sc__law_sea_right (wb := w__law_sea_right K T.Z) pure__law_sea_right ?_
  intro cdv A outer s H E hr tk
  exact ⟨_, (pss_cons (ps_set (i := 1) sc__law_sea_right.nd rfl (by first | exact Or.inl rfl | exact Or.inr rfl) (pe_op op_add pe_int (pe_callS (ok__law_draw T) (hr.mono (by decide)) rfl T.g__law_draw T.k__law_draw T.b__law_draw (fun σ => passAt tk σ) (pa_cons (pv 0) (pa_cons pe_int pa_nil)))))
      (pss_cons (ps_set (i := 2) sc__law_sea_right.nd rfl (by first | exact Or.inl rfl | exact Or.inr rfl) (pe_op op_add pe_int (pe_callS (ok__law_draw T) (hr.mono (by decide)) rfl T.g__law_draw T.k__law_draw T.b__law_draw (fun σ => passAt tk σ) (pa_cons (pv 0) (pa_cons pe_int pa_nil)))))
      (pss_cons (ps_set (i := 3) sc__law_sea_right.nd rfl (by first | exact Or.inl rfl | exact Or.inr rfl) (pe_op op_add pe_int (pe_callS (ok__law_draw T) (hr.mono (by decide)) rfl T.g__law_draw T.k__law_draw T.b__law_draw (fun σ => passAt tk σ) (pa_cons (pv 0) (pa_cons pe_int pa_nil)))))
      (pss_cons (ps_setLc (i := 4) (own := [("number", 5)]) (g := (gName 5)) (tt := tYes) (te := (tOp rAddI (tOp rDivW (tOp rMulA (tVar 5) (tVar 2)) (tC (.int 2))) (tC (.int 1)))) rfl sc__law_sea_right.nd rfl rfl (sw_true rfl rfl (by rfl) (by rfl)) (pi_range2 (by rfl) T.z_range (pa_cons pe_int (pa_cons (pe_op op_add (pv 3) pe_int) pa_nil))) (blkOk_by (N := ["pool", "width", "cap", "many", "tops", "number", "good", "top", "sorts", "joins", "book", "bad"]) (sc := defScope s__law_sea_right) (by decide +kernel)) (fun _ _ _ _ _ => (pg_name (i := 5) sc__law_sea_right.nd rfl (by first | exact Or.inl rfl | exact Or.inr rfl))) (fun _ _ _ _ _ => pts_nil) (fun _ _ _ _ _ => (pe_op op_add (pe_op op_fdivW (pe_op op_mulA (pv 5) (pv 2)) pe_int) pe_int)))
      (pss_cons (ps_set (i := 6) sc__law_sea_right.nd rfl (by first | exact Or.inl rfl | exact Or.inr rfl) (pe_callTy call_tuple_of (by rfl) T.z_tuple (by decide +kernel) (pa_cons (pe_lc (own := [("top", 7)]) (g := (gName 7)) (tt := tYes) (te := (tCallS (spOf K 2 (fs__law_lowest K)) (L2.WE W0) (tCons (tVar 7) (tCons (tVar 1) tNil)))) rfl sc__law_sea_right.nd (pi_seq (pv 4)) (blkOk_by (N := ["pool", "width", "cap", "many", "tops", "number", "good", "top", "sorts", "joins", "book", "bad"]) (sc := defScope s__law_sea_right) (by decide +kernel)) (fun _ _ _ _ _ => (pg_name (i := 7) sc__law_sea_right.nd rfl (by first | exact Or.inl rfl | exact Or.inr rfl))) (fun _ _ _ _ _ => pts_nil) (fun _ _ _ _ _ => (pe_callS (ok__law_lowest T) (hr.mono (by decide)) rfl T.g__law_lowest T.k__law_lowest T.b__law_lowest (fun σ => passAt L2.takes0 σ) (pa_cons (pv 7) (pa_cons (pv 1) pa_nil))))) pa_nil)))
      (pss_cons (ps_par (i := 8) (j := 9) (by rfl) sc__law_sea_right.nd rfl rfl (by decide) rfl rfl (pa_cons (pe_tup (pa_cons (pe_tup (pa_cons pe_int (pa_cons (pe_op op_add pe_int (pe_callS (ok__law_draw T) (hr.mono (by decide)) rfl T.g__law_draw T.k__law_draw T.b__law_draw (fun σ => passAt tk σ) (pa_cons (pv 0) (pa_cons pe_int pa_nil)))) pa_nil))) (pa_cons (pe_tup (pa_cons (pv 1) (pa_cons (pv 2) pa_nil))) pa_nil))) (pa_cons (pe_tup (pa_cons (pe_tup (pa_cons pe_int (pa_cons pe_int pa_nil))) pa_nil)) pa_nil)) (by rfl))
      (pss_cons (ps_set (i := 10) sc__law_sea_right.nd rfl (by first | exact Or.inl rfl | exact Or.inr rfl) (pe_make T.cm_Book (ok_Book__init__ T) (hr.mono (by decide)) rfl T.gc_Book T.b_Book__init__ .nil (passF tk) (pa_cons (pv 8) (pa_cons (pe_tup (pa_cons (pe_tup (pa_cons (pe_callS (ok__law_ascending T) (hr.mono (by decide)) rfl T.g__law_ascending T.k__law_ascending T.b__law_ascending (fun σ => passAt tk σ) (pa_cons (pv 6) pa_nil)) (pa_cons (pv 9) pa_nil))) pa_nil)) pa_nil))))
      (pss_cons (ps_if (PW.pt (pw_or (pt_cmpR (op_neD hr.units) (pe_callS (ok_room T) (hr.mono (by decide)) rfl T.g_room T.k_room T.b_room (fun σ => passAt tk σ) (pa_cons (pv 10) (pa_cons pe_int (pa_cons pe_int pa_nil)))) (pe_callS (ok__law_lowest T) (hr.mono (by decide)) rfl T.g__law_lowest T.k__law_lowest T.b__law_lowest (fun σ => passAt tk σ) (pa_cons (pv 2) (pa_cons (pv 1) pa_nil))) (nomark _)) (pw_or1 (pt_cmpR op_notB (pe_callS (ok_calm T) (hr.mono (by decide)) rfl T.g_calm T.k_calm T.b_calm (fun σ => passAt tk σ) (pa_cons (pv 10) pa_nil)) pe_bl (nomark _)))))
        (pss_one (ps_ret pe_bl))
        pss_nil)
      (pss_cons (ps_if (pt_cmpR op_eq (pv 2) pe_int (nomark _))
        (pss_one (ps_ret (pe_cmpR op_isN (pe_callS (ok_breach T) (hr.mono (by decide)) rfl T.g_breach T.k_breach T.b_breach (fun σ => passAt tk σ) (pa_cons (pv 10) pa_nil)) pe_non (nomark _))))
        pss_nil)
      (pss_cons (ps_set (i := 11) sc__law_sea_right.nd rfl (by first | exact Or.inl rfl | exact Or.inr rfl) (pe_tup (pa_cons (pe_callS (ok__law_lowest T) (hr.mono (by decide)) rfl T.g__law_lowest T.k__law_lowest T.b__law_lowest (fun σ => passAt tk σ) (pa_cons (pe_op op_fdivW (pv 2) pe_int) (pa_cons (pv 1) pa_nil))) pa_nil)))
      (pss_one (ps_ret (pe_cmpR (op_eqD hr.units) (pe_callS (ok_breach T) (hr.mono (by decide)) rfl T.g_breach T.k_breach T.b_breach (fun σ => passAt tk σ) (pa_cons (pe_make T.cm_Book (ok_Book__init__ T) (hr.mono (by decide)) rfl T.gc_Book T.b_Book__init__ .nil (passF tk) (pa_cons (pv 8) (pa_cons (pe_tup (pa_cons (pe_tup (pa_cons (pv 11) (pa_cons (pv 9) pa_nil))) pa_nil)) pa_nil))) pa_nil)) (pe_tup (pa_cons pe_int (pa_cons (pe_tup (pa_cons pe_int (pa_cons pe_int pa_nil))) (pa_cons (pe_ix ix_seq (pv 11) pe_int (fun _ _ => rfl)) pa_nil)))) (nomark _)))))))))))))),
    (ds_seq (ds_asg (de_op o_add de_int (de_call (n := 2) (fs := fs__law_draw K) (dac_own (j := 0) (dac_cons de_int dac_nil)))) (dg_name 1))
      (ds_seq (ds_asg (de_op o_add de_int (de_call (n := 2) (fs := fs__law_draw K) (dac_own (j := 0) (dac_cons de_int dac_nil)))) (dg_name 2))
      (ds_seq (ds_asg (de_op o_add de_int (de_call (n := 2) (fs := fs__law_draw K) (dac_own (j := 0) (dac_cons de_int dac_nil)))) (dg_name 3))
      (ds_seq (ds_asg (de_lc (vs := [5]) (wI := (wRng2 (wCons (wC (.int 1)) (wCons (wOp gAddI (wVar 3) (wC (.int 1))) wNil)))) (wg := (wName 5)) (wt := wYes) (we := (wOp gAddI (wOp gDivW (wOp gMulA (wVar 5) (wVar 2)) (wC (.int 2))) (wC (.int 1)))) (di_rng2 (da_cons de_int (da_cons (de_op o_add (de_var 3) de_int) da_nil))) (dg_name 5) dt_yes (de_op o_add (de_op o_fdivW (de_op o_mulA (de_var 5) (de_var 2)) de_int) de_int) (by decide)) (dg_name 4))
      (ds_seq (ds_asg (de_cb o_tupleOf (da_cons (de_lc (vs := [7]) (wI := (wSeq (wVar 4))) (wg := (wName 7)) (wt := wYes) (we := (wCall 2 (fs__law_lowest K) (wcCons (wVar 7) (wcCons (wVar 1) wcNil)))) (di_seq (de_var 4)) (dg_name 7) dt_yes (de_call (n := 2) (fs := fs__law_lowest K) (dac_cons (de_var 7) (dac_cons (de_var 1) dac_nil))) (by decide)) da_nil)) (dg_name 6))
      (ds_seq (ds_par (i := 8) (j := 9) (da_cons (de_tup (da_cons (de_tup (da_cons de_int (da_cons (de_op o_add de_int (de_call (n := 2) (fs := fs__law_draw K) (dac_own (j := 0) (dac_cons de_int dac_nil)))) da_nil))) (da_cons (de_tup (da_cons (de_var 1) (da_cons (de_var 2) da_nil))) da_nil))) (da_cons (de_tup (da_cons (de_tup (da_cons de_int (da_cons de_int da_nil))) da_nil)) da_nil)))
      (ds_seq (ds_asg (de_makeI (n := 2) (fs := fs_Book__init__ K T.Z) (da_cons (de_var 8) (da_cons (de_tup (da_cons (de_tup (da_cons (de_call (n := 1) (fs := fs__law_ascending K) (dac_cons (de_var 6) dac_nil)) (da_cons (de_var 9) da_nil))) da_nil)) da_nil))) (dg_name 10))
      (ds_seq (ds_if (dt_or (dt_B (de_op o_neD (de_call (n := 3) (fs := fs_room K T.Z) (dac_cons (de_var 10) (dac_cons de_int (dac_cons de_int dac_nil)))) (de_call (n := 2) (fs := fs__law_lowest K) (dac_cons (de_var 2) (dac_cons (de_var 1) dac_nil))))) (dt_B (de_op o_notB (de_call (n := 1) (fs := fs_calm K T.Z) (dac_cons (de_var 10) dac_nil)) de_bl))) (ds_ret de_bl) ds_nil)
      (ds_seq (ds_if (dt_B (de_op o_eq (de_var 2) de_int)) (ds_ret (de_op o_isN (de_call (n := 1) (fs := fs_breach K T.Z) (dac_cons (de_var 10) dac_nil)) de_non)) ds_nil)
      (ds_seq (ds_asg (de_tup (da_cons (de_call (n := 2) (fs := fs__law_lowest K) (dac_cons (de_op o_fdivW (de_var 2) de_int) (dac_cons (de_var 1) dac_nil))) da_nil)) (dg_name 11))
      (ds_ret (de_op o_eqD (de_call (n := 1) (fs := fs_breach K T.Z) (dac_cons (de_makeI (n := 2) (fs := fs_Book__init__ K T.Z) (da_cons (de_var 8) (da_cons (de_tup (da_cons (de_tup (da_cons (de_var 11) (da_cons (de_var 9) da_nil))) da_nil)) da_nil))) dac_nil)) (de_tup (da_cons de_int (da_cons (de_tup (da_cons de_int (da_cons de_int da_nil))) (da_cons (de_op o_ix (de_var 11) de_int) da_nil))))))))))))))))⟩
abbrev s__law_two_right : Stmt := topS 65
theorem sc__law_two_right : FnScope ["pool", "width", "other", "caps", "grains", "sorts", "far", "good", "bad", "calmer", "due"] ["pool"] (defScope s__law_two_right) := ⟨rfl, rfl, rfl, by decide +kernel, rfl, by decide +kernel, by decide +kernel⟩
def t11__law_two_right (K : PySem.W.Frag) (Z : CT) : SW := (wRet (wOp gEqD (wCall 1 (fs_breach K Z) (wcCons (wMkI Z.C_Book 2 (fs_Book__init__ K Z) (wCons (wVar 5) (wCons (wTup (wCons (wTup (wCons (wTup (wCons (wVar 8) wNil)) (wCons (wTup (wCons (wTup (wCons (wC (.int 0)) (wCons (wC (.int 1)) wNil))) wNil)) wNil))) wNil)) wNil))) wcNil)) (wTup (wCons (wC (.int 0)) (wCons (wTup (wCons (wC (.int 0)) (wCons (wC (.int 1)) wNil))) (wCons (wVar 8) wNil))))))
def t10__law_two_right (K : PySem.W.Frag) (Z : CT) : SW := (wSq (wIfS (wOr (wB (wOp gNotB (wCall 1 (fs_calm K Z) (wcCons (wVar 9) wcNil)) (wC (.bl true)))) (wB (wOp gNeD (wCall 1 (fs_loss K Z) (wcCons (wVar 9) wcNil)) (wVar 10)))) (wRet (wC (.bl false))) wNext)
  (t11__law_two_right K Z))
def t8__law_two_right (K : PySem.W.Frag) (Z : CT) : SW := (wSq (wAsg (wMkI Z.C_Book 2 (fs_Book__init__ K Z) (wCons (wVar 5) (wCons (wTup (wCons (wTup (wCons (wTup (wCons (wVar 7) wNil)) (wCons (wTup (wCons (wTup (wCons (wC (.int 0)) (wCons (wC (.int 1)) wNil))) wNil)) wNil))) wNil)) wNil))) (wName 9))
  (wSq (wAsg (wCall 2 (fs__law_lowest K) (wcCons (wOp gSubI (wOp gMulA (wC (.int 2)) (wOp gAddI (wOp gDivW (wVar 6) (wC (.int 2))) (wC (.int 1)))) (wVar 6)) (wcCons (wVar 4) wcNil))) (wName 10))
  (t10__law_two_right K Z)))
def t6__law_two_right (K : PySem.W.Frag) (Z : CT) : SW := (wSq (wAsg (wCall 2 (fs__law_lowest K) (wcCons (wOp gAddI (wOp gDivW (wVar 6) (wC (.int 2))) (wC (.int 1))) (wcCons (wVar 4) wcNil))) (wName 7))
  (wSq (wAsg (wCall 2 (fs__law_lowest K) (wcCons (wCB gMax2 (wCons (wC (.int 1)) (wCons (wOp gDivW (wVar 6) (wC (.int 2))) wNil))) (wcCons (wVar 4) wcNil))) (wName 8))
  (t8__law_two_right K Z)))
def t3__law_two_right (K : PySem.W.Frag) (Z : CT) : SW := (wSq (wAsg (wCall 2 (fs__law_grains K) (wcCons (wVar 1) (wcCons (wVar 2) wcNil))) (wName 4))
  (wSq (wAsg (wTup (wCons (wTup (wCons (wVar 1) (wCons (wOp gIx (wVar 3) (wC (.int 0))) wNil))) (wCons (wTup (wCons (wVar 2) (wCons (wOp gIx (wVar 3) (wC (.int 1))) wNil))) wNil))) (wName 5))
  (wSq (wAsg (wCall 3 (fs__law_room K) (wcCons (wVar 5) (wcCons (wTup (wCons (wC (.int 0)) (wCons (wC (.int 1)) wNil))) (wcCons (wVar 4) wcNil)))) (wName 6))
  (t6__law_two_right K Z))))
def w__law_two_right (K : PySem.W.Frag) (Z : CT) : SW := (wSq (wAsg (wOp gAddI (wC (.int 1)) (wCall 2 (fs__law_draw K) (wcOwn 0 (wcCons (wC (.int 12)) wcNil)))) (wName 1))
  (wSq (wAsg (wOp gAddI (wC (.int 1)) (wCall 2 (fs__law_draw K) (wcOwn 0 (wcCons (wC (.int 12)) wcNil)))) (wName 2))
  (wSq (wAsg (wTup (wCons (wOp gAddI (wC (.int 1)) (wCall 2 (fs__law_draw K) (wcOwn 0 (wcCons (wC (.int 6)) wcNil)))) (wCons (wOp gAddI (wC (.int 1)) (wCall 2 (fs__law_draw K) (wcOwn 0 (wcCons (wC (.int 6)) wcNil)))) wNil))) (wName 3))
  (t3__law_two_right K Z))))
def s3 (w o c k : Nat) : List So := [(1 + (w : Int), 1 + (c : Int)), (1 + (o : Int), 1 + (k : Int))]
def k3 (t : Th) : List Ki := [([t], [(0, 1)])]
def far3 (w o c k : Nat) : Int := partI (grI (1 + (w : Int)) (1 + (o : Int))) (1 + (w : Int), 1 + (c : Int)) + partI (grI (1 + (w : Int)) (1 + (o : Int))) (1 + (o : Int), 1 + (k : Int))
def good3 (w o c k : Nat) : Th := nfT (far3 w o c k / 2 + 1) (grI (1 + (w : Int)) (1 + (o : Int)))
def bad3 (w o c k : Nat) : Th := nfT (mxI 1 (far3 w o c k / 2)) (grI (1 + (w : Int)) (1 + (o : Int)))
def due3 (w o c k : Nat) : Th := nfT (2 * (far3 w o c k / 2 + 1) - far3 w o c k) (grI (1 + (w : Int)) (1 + (o : Int)))
theorem two_c {s t : So} {u : Th} (hs : 1 ≤ s.1 ∧ s.1 ≤ 12 ∧ 1 ≤ s.2 ∧ s.2 ≤ 6) (ht : 1 ≤ t.1 ∧ t.1 ≤ 12 ∧ 1 ≤ t.2 ∧ t.2 ≤ 6) (hu : ThOk u) : BkC [s, t] (k3 u) := by
  have e1 : isSs (sosD [s, t]) = true := by
    have a1 : isSo (soD s) = true := by simp only [soD, isSo, isBetw, Bool.and_eq_true, decide_eq_true_eq]; omega
    have a2 : isSo (soD t) = true := by simp only [soD, isSo, isBetw, Bool.and_eq_true, decide_eq_true_eq]; omega
    have b1 : isSea (soD s) = false := by simp only [soD, isSea, decide_eq_false_iff_not]; omega
    have b2 : isSea (soD t) = false := by simp only [soD, isSea, decide_eq_false_iff_not]; omega
    simp [sosD, isSs, isTupOf, a1, a2, b1, b2]
  have e2 : isLi (stD [u]) = true := by
    have : isTh (thD u) = true := hu
    simp [stD, isLi, isTupOf, this, ascP, zipD]
  have e3 : isKi [soD s, soD t] (kiD ([u], [(0, 1)])) = true := by
    simp only [kiD, isKi, e2, Bool.true_and]
    rfl
  refine ⟨?_, fun d hd => ?_, ⟨fun x hx => ?_, (show 1 ≤ 5 by decide), fun k mk => ?_⟩⟩
  · have e4 : badBook (sosD [s, t]) (kisD (k3 u)) = (firstBadP (isKi [soD s, soD t]) 0 [kiD ([u], [(0, 1)])]).map fun i => D.int (i : Nat) := by
      unfold badBook
      rw [e1]
      rfl
    rw [e4]
    simp [firstBadP, e3]
  · have : d = kiD ([u], [(0, 1)]) := by simpa [k3] using hd
    subst this
    show 1 ≤ 900
    decide
  · have : x = s ∨ x = t := by simpa using hx
    rcases this with rfl | rfl
    · exact ⟨by omega, hs.2.1, hs.2.2.1, hs.2.2.2⟩
    · exact ⟨by omega, ht.2.1, ht.2.2.1, ht.2.2.2⟩
  · have : k = ([u], [(0, 1)]) := by simpa [k3] using mk
    subst this
    refine ⟨⟨Nat.le_refl _, (by decide : 1 ≤ 6), fun x hx => ?_, by simp⟩, (by decide : 1 ≤ 900), fun jo mj => ?_⟩
    · have : x = u := by simpa using hx
      rw [this]
      exact hu
    · have : jo = (0, 1) := by simpa using mj
      subst this
      exact ⟨s, t, rfl, rfl, by omega⟩
theorem stp_nf {x g : Int} (h : 0 < g) : stpI g (nfT x g) = x := by
  obtain ⟨h1, h2, _⟩ := nfT_facts (x := x) h
  unfold stpI
  rw [h1]
  have : x * (nfT x g).2 + (nfT x g).2 - 1 = ((nfT x g).2 - 1) + x * (nfT x g).2 := by omega
  rw [this, Int.add_mul_ediv_right _ _ (by omega), Int.ediv_eq_zero_of_lt (by omega) (by omega)]
  omega
theorem one_kind {s t : So} {x : Int} (h : 0 < grI s.1 t.1) :
    firstK [s, t] 0 (k3 (nfT x (grI s.1 t.1))) = (if 2 * x ≤ roomG s t then some (0, (0, 1), x) else none) ∧
    calmB [s, t] (k3 (nfT x (grI s.1 t.1))) = !decide (2 * x ≤ roomG s t) ∧
    lossB [s, t] (k3 (nfT x (grI s.1 t.1))) = some (nfT (2 * x - roomG s t) (grI s.1 t.1)) ∧ grJ [s, t] (0, 1) = grI s.1 t.1 := by
  have e0 : leastN [nfT x (grI s.1 t.1)] (grI s.1 t.1) (roomG s t) = if 2 * x ≤ roomG s t then some x else none := by
    unfold leastN
    rw [List.map_cons, List.map_nil, stp_nf h]
    show firstB (roomG s t) [(x, 1)] = _
    unfold firstB
    rw [List.find?_cons]
    have : ((1 : Nat) : Int) * roomG s t = roomG s t := by omega
    by_cases z : 2 * x ≤ roomG s t
    · rw [if_pos z, decide_eq_true (by rw [this]; exact z)]
      rfl
    · rw [if_neg z, decide_eq_false (by rw [this]; exact z)]
      rfl
  have e1 : leastJ [s, t] [nfT x (grI s.1 t.1)] (0, 1) = if 2 * x ≤ roomG s t then some x else none := e0
  have e2 : grJ [s, t] (0, 1) = grI s.1 t.1 := rfl
  refine ⟨?_, ?_, ?_, e2⟩
  · unfold k3 firstK firstJ
    rw [e1]
    by_cases z : 2 * x ≤ roomG s t
    · rw [if_pos z]
      simp [z]
    · rw [if_neg z]
      simp [z, firstJ, firstK]
  · unfold calmB k3 calmK
    simp only [List.all_cons, List.all_nil, Bool.and_true, e1]
    by_cases z : 2 * x ≤ roomG s t
    · simp [z]
    · simp [z]
  · show lossJ [s, t] [nfT x (grI s.1 t.1)] none (0, 1) = _
    unfold lossJ
    rw [e2, List.map_cons, List.map_nil, stp_nf h]
    show lossP (grI s.1 t.1) (roomG s t) [(x, 1)] none = _
    show some (nfT (2 * x - ((1 : Nat) : Int) * roomG s t) (grI s.1 t.1)) = _
    have : ((1 : Nat) : Int) * roomG s t = roomG s t := by omega
    rw [this]
theorem far3_eq (w o c k : Nat) : far3 w o c k = roomG (1 + (w : Int), 1 + (c : Int)) (1 + (o : Int), 1 + (k : Int)) := rfl
theorem far3_b {w o c k : Nat} (w12 : w < 12) (o12 : o < 12) (c6 : c < 6) (k6 : k < 6) : 2 ≤ far3 w o c k ∧ far3 w o c k ≤ 1584 ∧ 1 ≤ grI (1 + (w : Int)) (1 + (o : Int)) ∧ grI (1 + (w : Int)) (1 + (o : Int)) ≤ 132 := by
  obtain ⟨g1, g2, g3, g4⟩ := gr_facts (w := 1 + (w : Int)) (o := 1 + (o : Int)) (by omega) (by omega) (by omega) (by omega) (by omega)
  have b := roomG_b (s := (1 + (w : Int), 1 + (c : Int))) (t := (1 + (o : Int), 1 + (k : Int))) ⟨by omega, by omega, by omega, by omega⟩ ⟨by omega, by omega, by omega, by omega⟩ (by omega)
  rw [← far3_eq] at b
  refine ⟨?_, b.2, g1, g2⟩
  have g3 := g3 (by omega)
  have g4 := g4 (by omega)
  have pos : ∀ {a b x : Int}, 0 < a → 1 ≤ b → b % a = 0 → 1 ≤ x → 1 ≤ x * (b / a) := fun {a b x} h1 h2 h3 h4 => by
    have h5 : a * (b / a) = b := Int.mul_ediv_cancel' (Int.dvd_of_emod_eq_zero h3)
    have h6 : 0 < b / a := pos_right h1 (by omega)
    have := Int.mul_le_mul h4 (show 1 ≤ b / a by omega) (by decide) (by omega)
    omega
  have p1 := pos (x := 1 + (c : Int)) (show (0 : Int) < 1 + (w : Int) by omega) g1 g3 (by omega)
  have p2 := pos (x := 1 + (k : Int)) (show (0 : Int) < 1 + (o : Int) by omega) g1 g4 (by omega)
  unfold far3 partI
  rw [if_pos (show (0 : Int) < 1 + (w : Int) by omega), if_pos (show (0 : Int) < 1 + (o : Int) by omega)]
  exact Int.add_le_add p1 p2
structure Two3 (w o c k : Nat) : Prop where
  g1 : BkC (s3 w o c k) (k3 (good3 w o c k))
  g2 : BkC (s3 w o c k) (k3 (bad3 w o c k))
  h3 : calmB (s3 w o c k) (k3 (good3 w o c k)) = true
  h4 : lossB (s3 w o c k) (k3 (good3 w o c k)) = some (due3 w o c k)
  h5 : firstK (s3 w o c k) 0 (k3 (bad3 w o c k)) = some (0, (0, 1), mxI 1 (far3 w o c k / 2))
  h6 : grJ (s3 w o c k) (0, 1) = grI (1 + (w : Int)) (1 + (o : Int))
theorem two3_all {w o c k : Nat} (w12 : w < 12) (o12 : o < 12) (c6 : c < 6) (k6 : k < 6) : Two3 w o c k := by
  obtain ⟨f1, f2, g1, g2⟩ := far3_b w12 o12 c6 k6
  have m1 : mxI 1 (far3 w o c k / 2) = far3 w o c k / 2 := by unfold mxI; split <;> omega
  have tk : ∀ x : Int, 1 ≤ x → x ≤ 1000 → ThOk (nfT x (grI (1 + (w : Int)) (1 + (o : Int)))) := fun x h1 h2 => th_nf (by omega) (by omega) (by omega) (by omega)
  have hg : 0 < grI (1 + (w : Int)) (1 + (o : Int)) := by omega
  have o1 := one_kind (s := (1 + (w : Int), 1 + (c : Int))) (t := (1 + (o : Int), 1 + (k : Int))) (x := far3 w o c k / 2 + 1) hg
  have o2 := one_kind (s := (1 + (w : Int), 1 + (c : Int))) (t := (1 + (o : Int), 1 + (k : Int))) (x := mxI 1 (far3 w o c k / 2)) hg
  rw [← far3_eq] at o1 o2
  refine ⟨two_c ⟨by omega, by omega, by omega, by omega⟩ ⟨by omega, by omega, by omega, by omega⟩ (tk _ (by omega) (by omega)), two_c ⟨by omega, by omega, by omega, by omega⟩ ⟨by omega, by omega, by omega, by omega⟩ (tk _ (by omega) (by omega)), ?_, ?_, ?_, o1.2.2.2⟩
  · refine o1.2.1.trans ?_
    rw [decide_eq_false (by omega)]
    rfl
  · exact o1.2.2.1
  · refine o2.1.trans ?_
    rw [if_pos (by omega)]
def fs__law_two_right (K : PySem.W.Frag) (Z : CT) : FS := fun cs q _ => ∃ (p : Addr) (c : Cont), cs = [.own p c] ∧ PoolC c ∧ ∀ c' : Cont, PoolC c' → q (.bl true) [.own p c']
theorem t8__law_two_right_ok {Z : CT} {E : EndsD} {c0 c1 c2 c3 c9 c10 : Cell} {w o c k : Nat} (w12 : w < 12) (o12 : o < 12) (c6 : c < 6) (k6 : k < 6)
    (hq : ∀ c9 c10, E.rt (.bl true) [c0, c1, c2, c3, .dat (.int (grI (1 + (w : Int)) (1 + (o : Int)))), .dat (sosD (s3 w o c k)), .dat (.int (far3 w o c k)), .dat (thD (good3 w o c k)), .dat (thD (bad3 w o c k)), c9, c10]) :
    t8__law_two_right K Z E [c0, c1, c2, c3, .dat (.int (grI (1 + (w : Int)) (1 + (o : Int)))), .dat (sosD (s3 w o c k)), .dat (.int (far3 w o c k)), .dat (thD (good3 w o c k)), .dat (thD (bad3 w o c k)), c9, c10] := by
  obtain ⟨g1, g2, h3, h4, h5, h6⟩ := two3_all w12 o12 c6 k6
  unfold t8__law_two_right t10__law_two_right t11__law_two_right
  simp only [fs__law_lowest, fs_calm, fs_breach, fs_loss, wMkI, fs_Book__init__, gIsB, gNotB, D.adr.injEq, Cont.pool.injEq, ixN31, ne_eq, List.map_cons, List.map_nil, wPoolOpen, wPoolClose, wPop0, wPopTo, wListOwn, wRemove, wRaise0, wRaise1, wAugOwn, wEnumL, wTru, wSlA, gCatA, gLtT, gLeT, wFrz, wChain3, wAttr, wMkF, wEnumT, wRevT, wDict0, wDict1, numD3, Nat.reduceAdd, atI0, atI1, atI2, atI3, atI4, ixN51, ixN52, ixN53, List.length_map, wNever, scal, V.int.injEq, V.str.injEq, V.bl.injEq, wSq, wNext, wBreak, wCont, wDrop, wRet, wRetN, wIfS, wAsg, wPar, wLstOwn, wAppend, wSetOwn, wIxOwn, wPeek, wRetOwn, wRetFr, wFor, wB, wNot, wAnd, wOr, wAndV, wOrV, wNotV, wIf, wChain, wNil, wCons, wCB, wTup, wLst, wNoPart, wPart, wSlT, wSlL, wSeq, wRng1, wRng2, wZip, wName, wNilT, wConsT, wTupT, wYes, wNeg, wVar, wC, wOp, wcNil, wcCons, wcOwn, wCall, wCallOwn, slots, cellsOf, OwnArgs, putBack, g2I, g2IC, gLen, gAbs, gGcd, gInt1, gTupleOf, gListOf, gIx, gCatT, gCat, gEq, gNe, gIsN, gNotN, scD, seqD_t, seqD_l, seqD_f, isNonD, List.nodup_cons, List.mem_cons, List.not_mem_nil, or_false, not_false_eq_true, Nat.reduceEqDiff, L3.Keeps, ends, wipeD, List.replicate, List.cons_append, List.nil_append, List.append_nil, List.getElem?_cons_zero, List.getElem?_cons_succ, List.set_cons_zero, List.set_cons_succ, List.getD_cons_zero, List.getD_cons_succ, List.length_cons, List.length_nil, List.nodup_nil, Option.some.injEq, Cell.dat.injEq, Cell.own.injEq, Cont.lst.injEq, D.bl.injEq, D.int.injEq, D.str.injEq, D.tup.injEq, D.lst.injEq, Arg.d.injEq, List.cons.injEq, exists_and_left, exists_and_right, exists_eq_left', exists_eq_left, exists_eq_right, exists_eq_right', exists_eq, exists_eq', and_true, true_and, and_assoc, and_self, exists_const, reduceCtorEq]
  refine ⟨by decide, by decide, by decide, by decide, by decide, fun x dx => ⟨dx, rfl, sos_okd, kis_okd (ks := k3 (good3 w o c k)), g1.s, fun part z => ?_, fun _ => ⟨_, rfl, ?_⟩⟩⟩
  · cases g1.f.symm.trans z
  obtain ⟨f1, f2, f3, f4⟩ := far3_b w12 o12 c6 k6
  refine ⟨divw (by decide) (by decide), cmul_l (by decide) (by decide), by omega, Nat.lt_of_lt_of_le (show (grI (1 + (w : Int)) (1 + (o : Int))).natAbs < 2 ^ 8 by omega) (pow_le (by decide)), s3 w o c k, k3 (good3 w o c k), rfl, g1.v, fun _ => ?_, fun z => (by rw [h3] at z; simp at z)⟩
  refine ⟨s3 w o c k, k3 (good3 w o c k), rfl, g1.v, fun _ => ?_, fun z => (by rw [h3] at z; cases z)⟩
  rw [h4]
  show gNeD (thD (due3 w o c k)) (thD (due3 w o c k)) _
  refine gNeD_refl (py_th _) (sh_th _) ⟨false, rfl, fun z => (nomatch z), fun _ => ?_⟩
  refine ⟨by decide, by decide, by decide, by decide, by decide, fun x dx => ⟨dx, rfl, sos_okd, kis_okd (ks := k3 (bad3 w o c k)), g2.s, fun part z => ?_, fun _ => ⟨_, rfl, s3 w o c k, k3 (bad3 w o c k), rfl, g2.v, by decide, by decide, ?_⟩⟩⟩
  · cases g2.f.symm.trans z
  rw [h5]
  obtain ⟨py, hp', hs'⟩ := sh3 0 0 1 (bad3 w o c k)
  have e : brD (s3 w o c k) (some (0, (0, 1), mxI 1 (far3 w o c k / 2))) = D.tup [D.int 0, D.tup [D.int 0, D.int 1], thD (bad3 w o c k)] := by
    show D.tup [D.int 0, D.tup [D.int 0, D.int 1], nf (mxI 1 (far3 w o c k / 2)) (grJ (s3 w o c k) (0, 1))] = _
    rw [h6]
    rfl
  rw [e]
  exact gEqD_refl hp' hs' (hq _ _)
theorem pure__law_two_right {Z : CT} : PureD 1 10 (fs__law_two_right K Z) (w__law_two_right K Z) := by
  rintro cs q e - ⟨p, c, rfl, hc, hq⟩
  simp only [w__law_two_right, fs__law_draw, gIsB, gNotB, D.adr.injEq, Cont.pool.injEq, ixN31, ne_eq, List.map_cons, List.map_nil, wPoolOpen, wPoolClose, wPop0, wPopTo, wListOwn, wRemove, wRaise0, wRaise1, wAugOwn, wEnumL, wTru, wSlA, gCatA, gLtT, gLeT, wFrz, wChain3, wAttr, wMkF, wEnumT, wRevT, wDict0, wDict1, numD3, Nat.reduceAdd, atI0, atI1, atI2, atI3, atI4, ixN51, ixN52, ixN53, List.length_map, wNever, scal, V.int.injEq, V.str.injEq, V.bl.injEq, wSq, wNext, wBreak, wCont, wDrop, wRet, wRetN, wIfS, wAsg, wPar, wLstOwn, wAppend, wSetOwn, wIxOwn, wPeek, wRetOwn, wRetFr, wFor, wB, wNot, wAnd, wOr, wAndV, wOrV, wNotV, wIf, wChain, wNil, wCons, wCB, wTup, wLst, wNoPart, wPart, wSlT, wSlL, wSeq, wRng1, wRng2, wZip, wName, wNilT, wConsT, wTupT, wYes, wNeg, wVar, wC, wOp, wcNil, wcCons, wcOwn, wCall, wCallOwn, slots, cellsOf, OwnArgs, putBack, g2I, g2IC, gLen, gAbs, gGcd, gInt1, gTupleOf, gListOf, gIx, gCatT, gCat, gEq, gNe, gIsN, gNotN, scD, seqD_t, seqD_l, seqD_f, isNonD, List.nodup_cons, List.mem_cons, List.not_mem_nil, or_false, not_false_eq_true, Nat.reduceEqDiff, L3.Keeps, ends, wipeD, List.replicate, List.cons_append, List.nil_append, List.append_nil, List.getElem?_cons_zero, List.getElem?_cons_succ, List.set_cons_zero, List.set_cons_succ, List.getD_cons_zero, List.getD_cons_succ, List.length_cons, List.length_nil, List.nodup_nil, Option.some.injEq, Cell.dat.injEq, Cell.own.injEq, Cont.lst.injEq, D.bl.injEq, D.int.injEq, D.str.injEq, D.tup.injEq, D.lst.injEq, Arg.d.injEq, List.cons.injEq, exists_and_left, exists_and_right, exists_eq_left', exists_eq_left, exists_eq_right, exists_eq_right', exists_eq, exists_eq', and_true, true_and, and_assoc, and_self, exists_const, reduceCtorEq]
  refine ⟨hc, by decide, by decide, fun c1 w hc1 w0 w12 => ⟨hc1, by decide, by decide, fun c2 o hc2 o0 o12 => ⟨hc2, by decide, by decide, fun c3 c hc3 c0 c6 => ⟨hc3, by decide, by decide, fun c4 k hc4 k0 k6 => ?_⟩⟩⟩⟩
  obtain ⟨w, rfl⟩ := Int.eq_ofNat_of_zero_le w0
  obtain ⟨o, rfl⟩ := Int.eq_ofNat_of_zero_le o0
  obtain ⟨c, rfl⟩ := Int.eq_ofNat_of_zero_le c0
  obtain ⟨k, rfl⟩ := Int.eq_ofNat_of_zero_le k0
  refine ⟨by decide, ?_⟩
  unfold t3__law_two_right
  simp only [fs__law_grains, fs__law_room, gIsB, gNotB, D.adr.injEq, Cont.pool.injEq, ixN31, ne_eq, List.map_cons, List.map_nil, wPoolOpen, wPoolClose, wPop0, wPopTo, wListOwn, wRemove, wRaise0, wRaise1, wAugOwn, wEnumL, wTru, wSlA, gCatA, gLtT, gLeT, wFrz, wChain3, wAttr, wMkF, wEnumT, wRevT, wDict0, wDict1, numD3, Nat.reduceAdd, atI0, atI1, atI2, atI3, atI4, ixN51, ixN52, ixN53, List.length_map, wNever, scal, V.int.injEq, V.str.injEq, V.bl.injEq, wSq, wNext, wBreak, wCont, wDrop, wRet, wRetN, wIfS, wAsg, wPar, wLstOwn, wAppend, wSetOwn, wIxOwn, wPeek, wRetOwn, wRetFr, wFor, wB, wNot, wAnd, wOr, wAndV, wOrV, wNotV, wIf, wChain, wNil, wCons, wCB, wTup, wLst, wNoPart, wPart, wSlT, wSlL, wSeq, wRng1, wRng2, wZip, wName, wNilT, wConsT, wTupT, wYes, wNeg, wVar, wC, wOp, wcNil, wcCons, wcOwn, wCall, wCallOwn, slots, cellsOf, OwnArgs, putBack, g2I, g2IC, gLen, gAbs, gGcd, gInt1, gTupleOf, gListOf, gIx, gCatT, gCat, gEq, gNe, gIsN, gNotN, scD, seqD_t, seqD_l, seqD_f, isNonD, List.nodup_cons, List.mem_cons, List.not_mem_nil, or_false, not_false_eq_true, Nat.reduceEqDiff, L3.Keeps, ends, wipeD, List.replicate, List.cons_append, List.nil_append, List.append_nil, List.getElem?_cons_zero, List.getElem?_cons_succ, List.set_cons_zero, List.set_cons_succ, List.getD_cons_zero, List.getD_cons_succ, List.length_cons, List.length_nil, List.nodup_nil, Option.some.injEq, Cell.dat.injEq, Cell.own.injEq, Cont.lst.injEq, D.bl.injEq, D.int.injEq, D.str.injEq, D.tup.injEq, D.lst.injEq, Arg.d.injEq, List.cons.injEq, exists_and_left, exists_and_right, exists_eq_left', exists_eq_left, exists_eq_right, exists_eq_right', exists_eq, exists_eq', and_true, true_and, and_assoc, and_self, exists_const, reduceCtorEq]
  have g1 := (two3_all (w := w) (o := o) (c := c) (k := k) (by omega) (by omega) (by omega) (by omega)).g1
  refine ⟨by omega, by omega, by omega, by omega, by decide, by decide, by decide, by decide, s3 w o c k, rfl, (0, 1), rfl, _, rfl, _, rfl, g1.v.s, ?_⟩
  obtain ⟨f1, f2, f3, f4⟩ := far3_b (w := w) (o := o) (c := c) (k := k) (by omega) (by omega) (by omega) (by omega)
  have gb : (grI (1 + (w : Int)) (1 + (o : Int))).natAbs < 2 ^ 900 := Nat.lt_of_lt_of_le (show (grI (1 + (w : Int)) (1 + (o : Int))).natAbs < 2 ^ 8 by omega) (pow_le (by decide))
  unfold t6__law_two_right
  simp only [fs__law_lowest, gMax2, gIsB, gNotB, D.adr.injEq, Cont.pool.injEq, ixN31, ne_eq, List.map_cons, List.map_nil, wPoolOpen, wPoolClose, wPop0, wPopTo, wListOwn, wRemove, wRaise0, wRaise1, wAugOwn, wEnumL, wTru, wSlA, gCatA, gLtT, gLeT, wFrz, wChain3, wAttr, wMkF, wEnumT, wRevT, wDict0, wDict1, numD3, Nat.reduceAdd, atI0, atI1, atI2, atI3, atI4, ixN51, ixN52, ixN53, List.length_map, wNever, scal, V.int.injEq, V.str.injEq, V.bl.injEq, wSq, wNext, wBreak, wCont, wDrop, wRet, wRetN, wIfS, wAsg, wPar, wLstOwn, wAppend, wSetOwn, wIxOwn, wPeek, wRetOwn, wRetFr, wFor, wB, wNot, wAnd, wOr, wAndV, wOrV, wNotV, wIf, wChain, wNil, wCons, wCB, wTup, wLst, wNoPart, wPart, wSlT, wSlL, wSeq, wRng1, wRng2, wZip, wName, wNilT, wConsT, wTupT, wYes, wNeg, wVar, wC, wOp, wcNil, wcCons, wcOwn, wCall, wCallOwn, slots, cellsOf, OwnArgs, putBack, g2I, g2IC, gLen, gAbs, gGcd, gInt1, gTupleOf, gListOf, gIx, gCatT, gCat, gEq, gNe, gIsN, gNotN, scD, seqD_t, seqD_l, seqD_f, isNonD, List.nodup_cons, List.mem_cons, List.not_mem_nil, or_false, not_false_eq_true, Nat.reduceEqDiff, L3.Keeps, ends, wipeD, List.replicate, List.cons_append, List.nil_append, List.append_nil, List.getElem?_cons_zero, List.getElem?_cons_succ, List.set_cons_zero, List.set_cons_succ, List.getD_cons_zero, List.getD_cons_succ, List.length_cons, List.length_nil, List.nodup_nil, Option.some.injEq, Cell.dat.injEq, Cell.own.injEq, Cont.lst.injEq, D.bl.injEq, D.int.injEq, D.str.injEq, D.tup.injEq, D.lst.injEq, Arg.d.injEq, List.cons.injEq, exists_and_left, exists_and_right, exists_eq_left', exists_eq_left, exists_eq_right, exists_eq_right', exists_eq, exists_eq', and_true, true_and, and_assoc, and_self, exists_const, reduceCtorEq]
  refine ⟨divw (by decide) (by decide), by omega, gb, divw (by decide) (by decide), by omega, gb, ?_⟩
  refine t8__law_two_right_ok (w := w) (o := o) (c := c) (k := k) (by omega) (by omega) (by omega) (by omega) fun c9 c10 => ?_
  simp only [gIsB, gNotB, D.adr.injEq, Cont.pool.injEq, ixN31, ne_eq, List.map_cons, List.map_nil, wPoolOpen, wPoolClose, wPop0, wPopTo, wListOwn, wRemove, wRaise0, wRaise1, wAugOwn, wEnumL, wTru, wSlA, gCatA, gLtT, gLeT, wFrz, wChain3, wAttr, wMkF, wEnumT, wRevT, wDict0, wDict1, numD3, Nat.reduceAdd, atI0, atI1, atI2, atI3, atI4, ixN51, ixN52, ixN53, List.length_map, wNever, scal, V.int.injEq, V.str.injEq, V.bl.injEq, wSq, wNext, wBreak, wCont, wDrop, wRet, wRetN, wIfS, wAsg, wPar, wLstOwn, wAppend, wSetOwn, wIxOwn, wPeek, wRetOwn, wRetFr, wFor, wB, wNot, wAnd, wOr, wAndV, wOrV, wNotV, wIf, wChain, wNil, wCons, wCB, wTup, wLst, wNoPart, wPart, wSlT, wSlL, wSeq, wRng1, wRng2, wZip, wName, wNilT, wConsT, wTupT, wYes, wNeg, wVar, wC, wOp, wcNil, wcCons, wcOwn, wCall, wCallOwn, slots, cellsOf, OwnArgs, putBack, g2I, g2IC, gLen, gAbs, gGcd, gInt1, gTupleOf, gListOf, gIx, gCatT, gCat, gEq, gNe, gIsN, gNotN, scD, seqD_t, seqD_l, seqD_f, isNonD, List.nodup_cons, List.mem_cons, List.not_mem_nil, or_false, not_false_eq_true, Nat.reduceEqDiff, L3.Keeps, ends, wipeD, List.replicate, List.cons_append, List.nil_append, List.append_nil, List.getElem?_cons_zero, List.getElem?_cons_succ, List.set_cons_zero, List.set_cons_succ, List.getD_cons_zero, List.getD_cons_succ, List.length_cons, List.length_nil, List.nodup_nil, Option.some.injEq, Cell.dat.injEq, Cell.own.injEq, Cont.lst.injEq, D.bl.injEq, D.int.injEq, D.str.injEq, D.tup.injEq, D.lst.injEq, Arg.d.injEq, List.cons.injEq, exists_and_left, exists_and_right, exists_eq_left', exists_eq_left, exists_eq_right, exists_eq_right', exists_eq, exists_eq', and_true, true_and, and_assoc, and_self, exists_const, reduceCtorEq]
  exact hq c4 hc4
theorem ok__law_two_right (T : Txt K mg) : FnOk P w K mg base (L2.CX P w) 8 T.f__law_two_right T.fd__law_two_right ["pool"] (spOf K 1 (fs__law_two_right K T.Z)) := by
  refine def_ok T.F__law_two_right sc__law_two_right (wb := w__law_two_right K T.Z) pure__law_two_right ?_
  intro cdv A outer s H E hr tk
  exact ⟨_, (pss_cons (ps_set (i := 1) sc__law_two_right.nd rfl (by first | exact Or.inl rfl | exact Or.inr rfl) (pe_op op_add pe_int (pe_callS (ok__law_draw T) (hr.mono (by decide)) rfl T.g__law_draw T.k__law_draw T.b__law_draw (fun σ => passAt tk σ) (pa_cons (pv 0) (pa_cons pe_int pa_nil)))))
      (pss_cons (ps_set (i := 2) sc__law_two_right.nd rfl (by first | exact Or.inl rfl | exact Or.inr rfl) (pe_op op_add pe_int (pe_callS (ok__law_draw T) (hr.mono (by decide)) rfl T.g__law_draw T.k__law_draw T.b__law_draw (fun σ => passAt tk σ) (pa_cons (pv 0) (pa_cons pe_int pa_nil)))))
      (pss_cons (ps_set (i := 3) sc__law_two_right.nd rfl (by first | exact Or.inl rfl | exact Or.inr rfl) (pe_tup (pa_cons (pe_op op_add pe_int (pe_callS (ok__law_draw T) (hr.mono (by decide)) rfl T.g__law_draw T.k__law_draw T.b__law_draw (fun σ => passAt tk σ) (pa_cons (pv 0) (pa_cons pe_int pa_nil)))) (pa_cons (pe_op op_add pe_int (pe_callS (ok__law_draw T) (hr.mono (by decide)) rfl T.g__law_draw T.k__law_draw T.b__law_draw (fun σ => passAt tk σ) (pa_cons (pv 0) (pa_cons pe_int pa_nil)))) pa_nil))))
      (pss_cons (ps_set (i := 4) sc__law_two_right.nd rfl (by first | exact Or.inl rfl | exact Or.inr rfl) (pe_callS (ok__law_grains T) (hr.mono (by decide)) rfl T.g__law_grains T.k__law_grains T.b__law_grains (fun σ => passAt tk σ) (pa_cons (pv 1) (pa_cons (pv 2) pa_nil))))
      (pss_cons (ps_set (i := 5) sc__law_two_right.nd rfl (by first | exact Or.inl rfl | exact Or.inr rfl) (pe_tup (pa_cons (pe_tup (pa_cons (pv 1) (pa_cons (pe_ix ix_seq (pv 3) pe_int (fun _ _ => rfl)) pa_nil))) (pa_cons (pe_tup (pa_cons (pv 2) (pa_cons (pe_ix ix_seq (pv 3) pe_int (fun _ _ => rfl)) pa_nil))) pa_nil))))
      (pss_cons (ps_set (i := 6) sc__law_two_right.nd rfl (by first | exact Or.inl rfl | exact Or.inr rfl) (pe_callS (ok__law_room T) (hr.mono (by decide)) rfl T.g__law_room T.k__law_room T.b__law_room (fun σ => passAt tk σ) (pa_cons (pv 5) (pa_cons (pe_tup (pa_cons pe_int (pa_cons pe_int pa_nil))) (pa_cons (pv 4) pa_nil)))))
      (pss_cons (ps_set (i := 7) sc__law_two_right.nd rfl (by first | exact Or.inl rfl | exact Or.inr rfl) (pe_callS (ok__law_lowest T) (hr.mono (by decide)) rfl T.g__law_lowest T.k__law_lowest T.b__law_lowest (fun σ => passAt tk σ) (pa_cons (pe_op op_add (pe_op op_fdivW (pv 6) pe_int) pe_int) (pa_cons (pv 4) pa_nil))))
      (pss_cons (ps_set (i := 8) sc__law_two_right.nd rfl (by first | exact Or.inl rfl | exact Or.inr rfl) (pe_callS (ok__law_lowest T) (hr.mono (by decide)) rfl T.g__law_lowest T.k__law_lowest T.b__law_lowest (fun σ => passAt tk σ) (pa_cons (pe_callB (call_max2 rfl) (by rfl) T.z_max (by decide +kernel) (pa_cons pe_int (pa_cons (pe_op op_fdivW (pv 6) pe_int) pa_nil))) (pa_cons (pv 4) pa_nil))))
      (pss_cons (ps_set (i := 9) sc__law_two_right.nd rfl (by first | exact Or.inl rfl | exact Or.inr rfl) (pe_make T.cm_Book (ok_Book__init__ T) (hr.mono (by decide)) rfl T.gc_Book T.b_Book__init__ .nil (passF tk) (pa_cons (pv 5) (pa_cons (pe_tup (pa_cons (pe_tup (pa_cons (pe_tup (pa_cons (pv 7) pa_nil)) (pa_cons (pe_tup (pa_cons (pe_tup (pa_cons pe_int (pa_cons pe_int pa_nil))) pa_nil)) pa_nil))) pa_nil)) pa_nil))))
      (pss_cons (ps_set (i := 10) sc__law_two_right.nd rfl (by first | exact Or.inl rfl | exact Or.inr rfl) (pe_callS (ok__law_lowest T) (hr.mono (by decide)) rfl T.g__law_lowest T.k__law_lowest T.b__law_lowest (fun σ => passAt tk σ) (pa_cons (pe_op op_sub (pe_op op_mulA pe_int (pe_op op_add (pe_op op_fdivW (pv 6) pe_int) pe_int)) (pv 6)) (pa_cons (pv 4) pa_nil))))
      (pss_cons (ps_if (PW.pt (pw_or (pt_cmpR op_notB (pe_callS (ok_calm T) (hr.mono (by decide)) rfl T.g_calm T.k_calm T.b_calm (fun σ => passAt tk σ) (pa_cons (pv 9) pa_nil)) pe_bl (nomark _)) (pw_or1 (pt_cmpR (op_neD hr.units) (pe_callS (ok_loss T) (hr.mono (by decide)) rfl T.g_loss T.k_loss T.b_loss (fun σ => passAt tk σ) (pa_cons (pv 9) pa_nil)) (pv 10) (nomark _)))))
        (pss_one (ps_ret pe_bl))
        pss_nil)
      (pss_one (ps_ret (pe_cmpR (op_eqD hr.units) (pe_callS (ok_breach T) (hr.mono (by decide)) rfl T.g_breach T.k_breach T.b_breach (fun σ => passAt tk σ) (pa_cons (pe_make T.cm_Book (ok_Book__init__ T) (hr.mono (by decide)) rfl T.gc_Book T.b_Book__init__ .nil (passF tk) (pa_cons (pv 5) (pa_cons (pe_tup (pa_cons (pe_tup (pa_cons (pe_tup (pa_cons (pv 8) pa_nil)) (pa_cons (pe_tup (pa_cons (pe_tup (pa_cons pe_int (pa_cons pe_int pa_nil))) pa_nil)) pa_nil))) pa_nil)) pa_nil))) pa_nil)) (pe_tup (pa_cons pe_int (pa_cons (pe_tup (pa_cons pe_int (pa_cons pe_int pa_nil))) (pa_cons (pv 8) pa_nil)))) (nomark _))))))))))))))),
    (ds_seq (ds_asg (de_op o_add de_int (de_call (n := 2) (fs := fs__law_draw K) (dac_own (j := 0) (dac_cons de_int dac_nil)))) (dg_name 1))
      (ds_seq (ds_asg (de_op o_add de_int (de_call (n := 2) (fs := fs__law_draw K) (dac_own (j := 0) (dac_cons de_int dac_nil)))) (dg_name 2))
      (ds_seq (ds_asg (de_tup (da_cons (de_op o_add de_int (de_call (n := 2) (fs := fs__law_draw K) (dac_own (j := 0) (dac_cons de_int dac_nil)))) (da_cons (de_op o_add de_int (de_call (n := 2) (fs := fs__law_draw K) (dac_own (j := 0) (dac_cons de_int dac_nil)))) da_nil))) (dg_name 3))
      (ds_seq (ds_asg (de_call (n := 2) (fs := fs__law_grains K) (dac_cons (de_var 1) (dac_cons (de_var 2) dac_nil))) (dg_name 4))
      (ds_seq (ds_asg (de_tup (da_cons (de_tup (da_cons (de_var 1) (da_cons (de_op o_ix (de_var 3) de_int) da_nil))) (da_cons (de_tup (da_cons (de_var 2) (da_cons (de_op o_ix (de_var 3) de_int) da_nil))) da_nil))) (dg_name 5))
      (ds_seq (ds_asg (de_call (n := 3) (fs := fs__law_room K) (dac_cons (de_var 5) (dac_cons (de_tup (da_cons de_int (da_cons de_int da_nil))) (dac_cons (de_var 4) dac_nil)))) (dg_name 6))
      (ds_seq (ds_asg (de_call (n := 2) (fs := fs__law_lowest K) (dac_cons (de_op o_add (de_op o_fdivW (de_var 6) de_int) de_int) (dac_cons (de_var 4) dac_nil))) (dg_name 7))
      (ds_seq (ds_asg (de_call (n := 2) (fs := fs__law_lowest K) (dac_cons (de_cb o_max2 (da_cons de_int (da_cons (de_op o_fdivW (de_var 6) de_int) da_nil))) (dac_cons (de_var 4) dac_nil))) (dg_name 8))
      (ds_seq (ds_asg (de_makeI (n := 2) (fs := fs_Book__init__ K T.Z) (da_cons (de_var 5) (da_cons (de_tup (da_cons (de_tup (da_cons (de_tup (da_cons (de_var 7) da_nil)) (da_cons (de_tup (da_cons (de_tup (da_cons de_int (da_cons de_int da_nil))) da_nil)) da_nil))) da_nil)) da_nil))) (dg_name 9))
      (ds_seq (ds_asg (de_call (n := 2) (fs := fs__law_lowest K) (dac_cons (de_op o_sub (de_op o_mulA de_int (de_op o_add (de_op o_fdivW (de_var 6) de_int) de_int)) (de_var 6)) (dac_cons (de_var 4) dac_nil))) (dg_name 10))
      (ds_seq (ds_if (dt_or (dt_B (de_op o_notB (de_call (n := 1) (fs := fs_calm K T.Z) (dac_cons (de_var 9) dac_nil)) de_bl)) (dt_B (de_op o_neD (de_call (n := 1) (fs := fs_loss K T.Z) (dac_cons (de_var 9) dac_nil)) (de_var 10)))) (ds_ret de_bl) ds_nil)
      (ds_ret (de_op o_eqD (de_call (n := 1) (fs := fs_breach K T.Z) (dac_cons (de_makeI (n := 2) (fs := fs_Book__init__ K T.Z) (da_cons (de_var 5) (da_cons (de_tup (da_cons (de_tup (da_cons (de_tup (da_cons (de_var 8) da_nil)) (da_cons (de_tup (da_cons (de_tup (da_cons de_int (da_cons de_int da_nil))) da_nil)) da_nil))) da_nil)) da_nil))) dac_nil)) (de_tup (da_cons de_int (da_cons (de_tup (da_cons de_int (da_cons de_int da_nil))) (da_cons (de_var 8) da_nil)))))))))))))))))⟩
abbrev s_law : Stmt := topS 66
theorem sc_law : FnScope ["script", "pool", "turn"] ["script"] (defScope s_law) := ⟨rfl, rfl, rfl, by decide +kernel, rfl, by decide +kernel, by decide +kernel⟩
def b1_law (K : PySem.W.Frag) (Z : CT) : SW := (wIfS (wOr (wNot (wB (wCall 1 (fs__law_one_right K Z) (wcOwn 1 wcNil)))) (wOr (wNot (wB (wCall 1 (fs__law_sea_right K Z) (wcOwn 1 wcNil)))) (wNot (wB (wCall 1 (fs__law_two_right K Z) (wcOwn 1 wcNil)))))) (wRet (wC (.bl false))) wNext)
def l1_law (K : PySem.W.Frag) (Z : CT) : SW := wFor (wRng1 (wCons (wC (.int 4)) wNil)) (wName 2) (b1_law K Z)
def w_law (K : PySem.W.Frag) (Z : CT) : SW := (wSq (wCallOwn 1 1 (fs__law_pool K) (wcCons (wVar 0) wcNil))
  (wSq (l1_law K Z)
  (wRet (wC (.bl true)))))
structure LawF (K : PySem.W.Frag) (Z : CT) : Prop where
  t : True
def fs_law (K : PySem.W.Frag) (Z : CT) : FS := fun cs q _ => ∃ (ns : List Int), cs = [.dat (.fl (ns.map D.int))] ∧ ns.length ≤ 1000 ∧ LawF K Z ∧ q (.bl true) cs
theorem pure_law {Z : CT} : PureD 1 2 (fs_law K Z) (w_law K Z) := by
  rintro cs q e - ⟨ns, rfl, hl, L, hq⟩
  simp only [w_law, fs__law_pool, gIsB, gNotB, D.adr.injEq, Cont.pool.injEq, ixN31, ne_eq, List.map_cons, List.map_nil, wPoolOpen, wPoolClose, wPop0, wPopTo, wListOwn, wRemove, wRaise0, wRaise1, wAugOwn, wEnumL, wTru, wSlA, gCatA, gLtT, gLeT, wFrz, wChain3, wAttr, wMkF, wEnumT, wRevT, wDict0, wDict1, numD3, Nat.reduceAdd, atI0, atI1, atI2, atI3, atI4, ixN51, ixN52, ixN53, List.length_map, wNever, scal, V.int.injEq, V.str.injEq, V.bl.injEq, wSq, wNext, wBreak, wCont, wDrop, wRet, wRetN, wIfS, wAsg, wPar, wLstOwn, wAppend, wSetOwn, wIxOwn, wPeek, wRetOwn, wRetFr, wFor, wB, wNot, wAnd, wOr, wAndV, wOrV, wNotV, wIf, wChain, wNil, wCons, wCB, wTup, wLst, wNoPart, wPart, wSlT, wSlL, wSeq, wRng1, wRng2, wZip, wName, wNilT, wConsT, wTupT, wYes, wNeg, wVar, wC, wOp, wcNil, wcCons, wcOwn, wCall, wCallOwn, slots, cellsOf, OwnArgs, putBack, g2I, g2IC, gLen, gAbs, gGcd, gInt1, gTupleOf, gListOf, gIx, gCatT, gCat, gEq, gNe, gIsN, gNotN, scD, seqD_t, seqD_l, seqD_f, isNonD, List.nodup_cons, List.mem_cons, List.not_mem_nil, or_false, not_false_eq_true, Nat.reduceEqDiff, L3.Keeps, ends, wipeD, List.replicate, List.cons_append, List.nil_append, List.append_nil, List.getElem?_cons_zero, List.getElem?_cons_succ, List.set_cons_zero, List.set_cons_succ, List.getD_cons_zero, List.getD_cons_succ, List.length_cons, List.length_nil, List.nodup_nil, Option.some.injEq, Cell.dat.injEq, Cell.own.injEq, Cont.lst.injEq, D.bl.injEq, D.int.injEq, D.str.injEq, D.tup.injEq, D.lst.injEq, Arg.d.injEq, List.cons.injEq, exists_and_left, exists_and_right, exists_eq_left', exists_eq_left, exists_eq_right, exists_eq_right', exists_eq, exists_eq', and_true, true_and, and_assoc, and_self, exists_const, reduceCtorEq]
  refine ⟨ns, rfl, hl, fun c hc p => ?_⟩
  unfold l1_law wFor
  simp only [gIsB, gNotB, D.adr.injEq, Cont.pool.injEq, ixN31, ne_eq, List.map_cons, List.map_nil, wPoolOpen, wPoolClose, wPop0, wPopTo, wListOwn, wRemove, wRaise0, wRaise1, wAugOwn, wEnumL, wTru, wSlA, gCatA, gLtT, gLeT, wFrz, wChain3, wAttr, wMkF, wEnumT, wRevT, wDict0, wDict1, numD3, Nat.reduceAdd, atI0, atI1, atI2, atI3, atI4, ixN51, ixN52, ixN53, List.length_map, wNever, scal, V.int.injEq, V.str.injEq, V.bl.injEq, wSq, wNext, wBreak, wCont, wDrop, wRet, wRetN, wIfS, wAsg, wPar, wLstOwn, wAppend, wSetOwn, wIxOwn, wPeek, wRetOwn, wRetFr, wFor, wB, wNot, wAnd, wOr, wAndV, wOrV, wNotV, wIf, wChain, wNil, wCons, wCB, wTup, wLst, wNoPart, wPart, wSlT, wSlL, wSeq, wRng1, wRng2, wZip, wName, wNilT, wConsT, wTupT, wYes, wNeg, wVar, wC, wOp, wcNil, wcCons, wcOwn, wCall, wCallOwn, slots, cellsOf, OwnArgs, putBack, g2I, g2IC, gLen, gAbs, gGcd, gInt1, gTupleOf, gListOf, gIx, gCatT, gCat, gEq, gNe, gIsN, gNotN, scD, seqD_t, seqD_l, seqD_f, isNonD, List.nodup_cons, List.mem_cons, List.not_mem_nil, or_false, not_false_eq_true, Nat.reduceEqDiff, L3.Keeps, ends, wipeD, List.replicate, List.cons_append, List.nil_append, List.append_nil, List.getElem?_cons_zero, List.getElem?_cons_succ, List.set_cons_zero, List.set_cons_succ, List.getD_cons_zero, List.getD_cons_succ, List.length_cons, List.length_nil, List.nodup_nil, Option.some.injEq, Cell.dat.injEq, Cell.own.injEq, Cont.lst.injEq, D.bl.injEq, D.int.injEq, D.str.injEq, D.tup.injEq, D.lst.injEq, Arg.d.injEq, List.cons.injEq, exists_and_left, exists_and_right, exists_eq_left', exists_eq_left, exists_eq_right, exists_eq_right', exists_eq, exists_eq', and_true, true_and, and_assoc, and_self, exists_const, reduceCtorEq]
  refine ⟨by decide, by decide, fun _ τ => ∃ (c : Cont) (c2 : Cell), PoolC c ∧ τ = [.dat (.fl (ns.map D.int)), .own p c, c2], ⟨c, _, hc, rfl⟩, ?_, ?_⟩
  · rintro i d τ2 hi ⟨c, c2, hc, rfl⟩
    unfold b1_law
    simp only [fs__law_one_right, fs__law_sea_right, fs__law_two_right, gIsB, gNotB, D.adr.injEq, Cont.pool.injEq, ixN31, ne_eq, List.map_cons, List.map_nil, wPoolOpen, wPoolClose, wPop0, wPopTo, wListOwn, wRemove, wRaise0, wRaise1, wAugOwn, wEnumL, wTru, wSlA, gCatA, gLtT, gLeT, wFrz, wChain3, wAttr, wMkF, wEnumT, wRevT, wDict0, wDict1, numD3, Nat.reduceAdd, atI0, atI1, atI2, atI3, atI4, ixN51, ixN52, ixN53, List.length_map, wNever, scal, V.int.injEq, V.str.injEq, V.bl.injEq, wSq, wNext, wBreak, wCont, wDrop, wRet, wRetN, wIfS, wAsg, wPar, wLstOwn, wAppend, wSetOwn, wIxOwn, wPeek, wRetOwn, wRetFr, wFor, wB, wNot, wAnd, wOr, wAndV, wOrV, wNotV, wIf, wChain, wNil, wCons, wCB, wTup, wLst, wNoPart, wPart, wSlT, wSlL, wSeq, wRng1, wRng2, wZip, wName, wNilT, wConsT, wTupT, wYes, wNeg, wVar, wC, wOp, wcNil, wcCons, wcOwn, wCall, wCallOwn, slots, cellsOf, OwnArgs, putBack, g2I, g2IC, gLen, gAbs, gGcd, gInt1, gTupleOf, gListOf, gIx, gCatT, gCat, gEq, gNe, gIsN, gNotN, scD, seqD_t, seqD_l, seqD_f, isNonD, List.nodup_cons, List.mem_cons, List.not_mem_nil, or_false, not_false_eq_true, Nat.reduceEqDiff, L3.Keeps, ends, wipeD, List.replicate, List.cons_append, List.nil_append, List.append_nil, List.getElem?_cons_zero, List.getElem?_cons_succ, List.set_cons_zero, List.set_cons_succ, List.getD_cons_zero, List.getD_cons_succ, List.length_cons, List.length_nil, List.nodup_nil, Option.some.injEq, Cell.dat.injEq, Cell.own.injEq, Cont.lst.injEq, D.bl.injEq, D.int.injEq, D.str.injEq, D.tup.injEq, D.lst.injEq, Arg.d.injEq, List.cons.injEq, exists_and_left, exists_and_right, exists_eq_left', exists_eq_left, exists_eq_right, exists_eq_right', exists_eq, exists_eq', and_true, true_and, and_assoc, and_self, exists_const, reduceCtorEq]
    exact ⟨hc, fun c1 h1 => ⟨fun _ => ⟨h1, fun c2 h2 => ⟨fun _ => ⟨h2, fun c3 h3 => ⟨fun z => (nomatch z), fun _ => h3⟩⟩, fun z => (nomatch z)⟩⟩, fun z => (nomatch z)⟩⟩
  · rintro τ2 ⟨c, c2, hc, rfl⟩
    simp only [gIsB, gNotB, D.adr.injEq, Cont.pool.injEq, ixN31, ne_eq, List.map_cons, List.map_nil, wPoolOpen, wPoolClose, wPop0, wPopTo, wListOwn, wRemove, wRaise0, wRaise1, wAugOwn, wEnumL, wTru, wSlA, gCatA, gLtT, gLeT, wFrz, wChain3, wAttr, wMkF, wEnumT, wRevT, wDict0, wDict1, numD3, Nat.reduceAdd, atI0, atI1, atI2, atI3, atI4, ixN51, ixN52, ixN53, List.length_map, wNever, scal, V.int.injEq, V.str.injEq, V.bl.injEq, wSq, wNext, wBreak, wCont, wDrop, wRet, wRetN, wIfS, wAsg, wPar, wLstOwn, wAppend, wSetOwn, wIxOwn, wPeek, wRetOwn, wRetFr, wFor, wB, wNot, wAnd, wOr, wAndV, wOrV, wNotV, wIf, wChain, wNil, wCons, wCB, wTup, wLst, wNoPart, wPart, wSlT, wSlL, wSeq, wRng1, wRng2, wZip, wName, wNilT, wConsT, wTupT, wYes, wNeg, wVar, wC, wOp, wcNil, wcCons, wcOwn, wCall, wCallOwn, slots, cellsOf, OwnArgs, putBack, g2I, g2IC, gLen, gAbs, gGcd, gInt1, gTupleOf, gListOf, gIx, gCatT, gCat, gEq, gNe, gIsN, gNotN, scD, seqD_t, seqD_l, seqD_f, isNonD, List.nodup_cons, List.mem_cons, List.not_mem_nil, or_false, not_false_eq_true, Nat.reduceEqDiff, L3.Keeps, ends, wipeD, List.replicate, List.cons_append, List.nil_append, List.append_nil, List.getElem?_cons_zero, List.getElem?_cons_succ, List.set_cons_zero, List.set_cons_succ, List.getD_cons_zero, List.getD_cons_succ, List.length_cons, List.length_nil, List.nodup_nil, Option.some.injEq, Cell.dat.injEq, Cell.own.injEq, Cont.lst.injEq, D.bl.injEq, D.int.injEq, D.str.injEq, D.tup.injEq, D.lst.injEq, Arg.d.injEq, List.cons.injEq, exists_and_left, exists_and_right, exists_eq_left', exists_eq_left, exists_eq_right, exists_eq_right', exists_eq, exists_eq', and_true, true_and, and_assoc, and_self, exists_const, reduceCtorEq]
    exact hq
theorem ok_law (T : Txt K mg) {f : Addr} {kV doc pm cdv ct oc : Value} {an od : Option Addr} {osl : Array (Option Value)} (lk : K.lookup f = some ⟨oc, od, .func (PySem.W.fnOf "law" "law" (defArgs s_law) (defBody s_law) (defScope s_law) .none kV doc pm an cdv ct), osl⟩) (hcd : PySem.W.codeIn K cdv "law" = true) :
    FnOk P w K mg base (L2.CX P w) 9 f (PySem.W.fnOf "law" "law" (defArgs s_law) (defBody s_law) (defScope s_law) .none kV doc pm an cdv ct) ["script"] (spOf K 1 (fs_law K T.Z)) := by
  refine def_okC lk hcd sc_law (wb := w_law K T.Z) pure_law ?_
  intro A outer s H E hr tk
  exact ⟨_, (pss_cons (ps_set (i := 1) sc_law.nd rfl (by first | exact Or.inl rfl | exact Or.inr rfl) (pe_callS (ok__law_pool T) (hr.mono (by decide)) rfl T.g__law_pool T.k__law_pool T.b__law_pool (fun σ => passAt tk σ) (pa_cons (pv 0) pa_nil)))
      (pss_cons (ps_for (passes_of rfl) rfl (pi_range1 (by rfl) T.z_range (pa_cons pe_int pa_nil)) (pg_name (i := 2) sc_law.nd rfl (by first | exact Or.inl rfl | exact Or.inr rfl))
        (pss_one (ps_if (PW.pt (pw_or (pt_not (pt_val (pe_callS (ok__law_one_right T) (hr.mono (by decide)) rfl T.g__law_one_right T.k__law_one_right T.b__law_one_right (fun σ => passAt tk σ) (pa_cons (pv 1) pa_nil)))) (pw_or (pt_not (pt_val (pe_callS (ok__law_sea_right T) (hr.mono (by decide)) rfl T.g__law_sea_right T.k__law_sea_right T.b__law_sea_right (fun σ => passAt tk σ) (pa_cons (pv 1) pa_nil)))) (pw_or1 (pt_not (pt_val (pe_callS (ok__law_two_right T) (hr.mono (by decide)) rfl T.g__law_two_right T.k__law_two_right T.b__law_two_right (fun σ => passAt tk σ) (pa_cons (pv 1) pa_nil))))))))
        (pss_one (ps_ret pe_bl))
        pss_nil)))
      (pss_one (ps_ret pe_bl)))),
    (ds_seq (ds_callOwn (i := 1) (n := 1) (fs := fs__law_pool K) (dac_cons (de_var 0) dac_nil))
      (ds_seq (ds_for (wI := (wRng1 (wCons (wC (.int 4)) wNil))) (wg := (wName 2)) (wb := (wIfS (wOr (wNot (wB (wCall 1 (fs__law_one_right K T.Z) (wcOwn 1 wcNil)))) (wOr (wNot (wB (wCall 1 (fs__law_sea_right K T.Z) (wcOwn 1 wcNil)))) (wNot (wB (wCall 1 (fs__law_two_right K T.Z) (wcOwn 1 wcNil)))))) (wRet (wC (.bl false))) wNext)) (di_rng1 (da_cons de_int da_nil)) (dg_name 2) (ds_if (dt_or (dt_not (dt_B (de_call (n := 1) (fs := fs__law_one_right K T.Z) (dac_own (j := 1) dac_nil)))) (dt_or (dt_not (dt_B (de_call (n := 1) (fs := fs__law_sea_right K T.Z) (dac_own (j := 1) dac_nil)))) (dt_not (dt_B (de_call (n := 1) (fs := fs__law_two_right K T.Z) (dac_own (j := 1) dac_nil)))))) (ds_ret de_bl) ds_nil))
      (ds_ret de_bl)))⟩
end
end K38

namespace K38
open PySem PySem.Spec PyProof.Rows L2 L3
/-! ## the law's own head -/
def noTbl (H : Hp) : Hp := fun b => match H b with | some (.tbl _) => none | o => o
theorem noTbl_same {H : Hp} : Same (noTbl H) H := fun b o e => by
  unfold noTbl at e
  split at e
  · cases e
  · exact e
theorem noTbl_nt {H : Hp} : ∀ b o, noTbl H b = some o → NT o := fun b o e ps z => by
  subst z
  unfold noTbl at e
  split at e
  · cases e
  · rename_i h
    exact h ps e
theorem noTbl_seq {K : PySem.W.Frag} {H : Hp} {a : Addr} {xs : List V} (h : SqL K H a xs) : SqL K (noTbl H) a xs := by
  rcases h with (h | ⟨o, h⟩) | h
  · exact .inl (.inl (by unfold noTbl; rw [h]))
  · exact .inl (.inr ⟨o, by unfold noTbl; rw [h]⟩)
  · exact .inr h
theorem law_at {l : PySem.W.OpenLaw} {w : World} {K : PySem.W.Frag} {mg : Str → Option Value} {h : Heap} (T : Txt K mg) (L : LawF K T.Z) {f : Addr} {kV doc pm cdv ct oc : Value} {an od : Option Addr} {osl : Array (Option Value)}
    (lk : K.lookup f = some ⟨oc, od, .func (PySem.W.fnOf "law" "law" (defArgs s_law) (defBody s_law) (defScope s_law) .none kV doc pm an cdv ct), osl⟩) (hcd : PySem.W.codeIn K cdv "law" = true) : LamX.LawAtS l w K (L2.CX l.prog w) 9 63 "script" mg f h := by
  letI TB : TabT := ⟨[]⟩
  refine ⟨_, [], spOf K 1 (fs_law K T.Z), fun p hp => (nomatch hp), fun p hp => (nomatch hp), fun p hp => (nomatch hp), fun s v => .of_eq rfl, fun H a ns hn _ _ hS => ?_, fun base _ _ _ => ok_law T lk hcd⟩
  refine ⟨rfl, noTbl H, [.dat (.fl (ns.map D.int))], fun d _ => d = .bl true, fun _ _ => False, ⟨⟨fun p hp => (nomatch hp), noTbl_nt⟩, noTbl_same, rfl, fun i s c h1 h2 => ?_, fun i c h1 => ?_, fun i j c d a h1 _ f _ => ?_⟩, ⟨ns, rfl, by omega, L, rfl⟩, fun v d cs' F' H' _ _ _ r e => ?_, fun _ _ _ _ _ _ _ _ _ _ z => z⟩
  · match i, h1, h2 with
    | 0, h1, h2 =>
      cases h1; cases h2
      exact ⟨.ref a, rfl, .fl (noTbl_seq hS) Reps.ints⟩
    | i + 1, h1, h2 => simp at h1
  · match i, h1 with
    | 0, h1 => cases h1; exact trivial
    | i + 1, h1 => simp at h1
  · match i, h1 with
    | 0, h1 => cases h1; exact f.elim
    | i + 1, h1 => simp at h1
  · subst e
    exact r.bl_of
theorem cx_none {P : Program} : ∀ (w : World) (H : Hp) (s : Shared) (e : Value) (s' : Shared), L2.CX P w [] H s (fun _ _ _ => False) e s' → False := fun w H s e s' ⟨_, _, _, _, _, _, _, _, _, _, _, _, z⟩ => z
theorem kit_bt {K : PySem.W.Frag} {C : Addr} {T : String} {b : Bool} (h1 : PySem.W.kitMeta T = true) (h : PySem.W.subIn K (.ref C) (.type T) = some b) : PySem.W.kitOne K (.ref C) (.type T) = some b := by
  show (if (Value.ref C == Value.type T) = true then some true else if PySem.W.kitMeta T = true then PySem.W.subIn K (.ref C) (.type T) else none) = some b
  have e : (Value.ref C == Value.type T) = false := rfl
  rw [e, if_neg (by decide), if_pos h1]
  exact h
theorem kit_cr {K : PySem.W.Frag} {C D : Addr} {b : Bool} (h1 : PySem.W.isClsIn K D = true) (h2 : PySem.W.typeIn K (.ref D) = some (.type "type")) (h : PySem.W.subIn K (.ref C) (.ref D) = some b) : PySem.W.kitCls K (.ref C) (.ref D) = some b := by
  have e2 : ((PySem.W.clsIn K D).isSome && PySem.W.typeIn K (.ref D) == some (.type "type")) = true := by
    have h1' : (PySem.W.clsIn K D).isSome = true := h1
    rw [h1', h2]
    rfl
  show (if ((PySem.W.clsIn K D).isSome && PySem.W.typeIn K (.ref D) == some (.type "type")) = true then PySem.W.subIn K (.ref C) (.ref D) else none) = some b
  rw [if_pos e2]
  exact h
theorem kit_rt {K : PySem.W.Frag} {C D : Addr} (h1 : PySem.W.isClsIn K D = true) (h2 : PySem.W.typeIn K (.ref D) = some (.type "type")) (h : PySem.W.subIn K (.ref C) (.ref D) = some true) : PySem.W.kitOne K (.ref C) (.ref D) = some true := by
  show (if (Value.ref C == Value.ref D) = true then some true else PySem.W.kitCls K (.ref C) (.ref D)) = some true
  rw [kit_cr h1 h2 h]
  split <;> rfl
theorem kit_rf {K : PySem.W.Frag} {C D : Addr} (hne : (Value.ref C == Value.ref D) = false) (h1 : PySem.W.isClsIn K D = true) (h2 : PySem.W.typeIn K (.ref D) = some (.type "type")) (h : PySem.W.subIn K (.ref C) (.ref D) = some false) : PySem.W.kitOne K (.ref C) (.ref D) = some false := by
  show (if (Value.ref C == Value.ref D) = true then some true else PySem.W.kitCls K (.ref C) (.ref D)) = some false
  rw [kit_cr h1 h2 h, hne]
  rfl
section
variable {K : PySem.W.Frag} {mg : Str → Option Value}
open PySem.W PySem.Calls PySem.HandSPX in
theorem all_mk {l : PySem.W.OpenLaw} {w : World} {h : Heap} {fa : Addr} (X : K.In h) (G : h.Ns mainGlobals mg) (hfa : mg "law" = some (.ref fa))
    {C_NoSort : Addr}
    {C_NotCalm : Addr}
    {C_Book : Addr}
    {C_TidesError : Addr}
    {C_BadBook : Addr}
    {f_is_integer : Addr} {od_is_integer an_is_integer : Option Addr} {sl_is_integer : Array (Option Value)} {oc_is_integer kV_is_integer dc_is_integer pm_is_integer cd_is_integer ct_is_integer : Value}
    {f_is_between : Addr} {od_is_between an_is_between : Option Addr} {sl_is_between : Array (Option Value)} {oc_is_between kV_is_between dc_is_between pm_is_between cd_is_between ct_is_between : Value}
    {f_is_tuple_of : Addr} {od_is_tuple_of an_is_tuple_of : Option Addr} {sl_is_tuple_of : Array (Option Value)} {oc_is_tuple_of kV_is_tuple_of dc_is_tuple_of pm_is_tuple_of cd_is_tuple_of ct_is_tuple_of : Value}
    {f_is_fraction : Addr} {od_is_fraction an_is_fraction : Option Addr} {sl_is_fraction : Array (Option Value)} {oc_is_fraction kV_is_fraction dc_is_fraction pm_is_fraction cd_is_fraction ct_is_fraction : Value}
    {f_at_most : Addr} {od_at_most an_at_most : Option Addr} {sl_at_most : Array (Option Value)} {oc_at_most kV_at_most dc_at_most pm_at_most cd_at_most ct_at_most : Value}
    {f_is_threshold : Addr} {od_is_threshold an_is_threshold : Option Addr} {sl_is_threshold : Array (Option Value)} {oc_is_threshold kV_is_threshold dc_is_threshold pm_is_threshold cd_is_threshold ct_is_threshold : Value}
    {f_is_list : Addr} {od_is_list an_is_list : Option Addr} {sl_is_list : Array (Option Value)} {oc_is_list kV_is_list dc_is_list pm_is_list cd_is_list ct_is_list : Value}
    {f_ascends : Addr} {od_ascends an_ascends : Option Addr} {sl_ascends : Array (Option Value)} {oc_ascends kV_ascends dc_ascends pm_ascends cd_ascends ct_ascends : Value}
    {f_is_width : Addr} {od_is_width an_is_width : Option Addr} {sl_is_width : Array (Option Value)} {oc_is_width kV_is_width dc_is_width pm_is_width cd_is_width ct_is_width : Value}
    {f_is_sort : Addr} {od_is_sort an_is_sort : Option Addr} {sl_is_sort : Array (Option Value)} {oc_is_sort kV_is_sort dc_is_sort pm_is_sort cd_is_sort ct_is_sort : Value}
    {f_is_sort_tuple : Addr} {od_is_sort_tuple an_is_sort_tuple : Option Addr} {sl_is_sort_tuple : Array (Option Value)} {oc_is_sort_tuple kV_is_sort_tuple dc_is_sort_tuple pm_is_sort_tuple cd_is_sort_tuple ct_is_sort_tuple : Value}
    {f_is_join : Addr} {od_is_join an_is_join : Option Addr} {sl_is_join : Array (Option Value)} {oc_is_join kV_is_join dc_is_join pm_is_join cd_is_join ct_is_join : Value}
    {f_is_kind : Addr} {od_is_kind an_is_kind : Option Addr} {sl_is_kind : Array (Option Value)} {oc_is_kind kV_is_kind dc_is_kind pm_is_kind cd_is_kind ct_is_kind : Value}
    {f_Book__init__ : Addr} {od_Book__init__ an_Book__init__ : Option Addr} {sl_Book__init__ : Array (Option Value)} {oc_Book__init__ kV_Book__init__ dc_Book__init__ pm_Book__init__ cd_Book__init__ ct_Book__init__ : Value}
    {f_Book__eq__ : Addr} {od_Book__eq__ an_Book__eq__ : Option Addr} {sl_Book__eq__ : Array (Option Value)} {oc_Book__eq__ kV_Book__eq__ dc_Book__eq__ pm_Book__eq__ cd_Book__eq__ ct_Book__eq__ : Value}
    {f_fraction : Addr} {od_fraction an_fraction : Option Addr} {sl_fraction : Array (Option Value)} {oc_fraction kV_fraction dc_fraction pm_fraction cd_fraction ct_fraction : Value}
    {f_plus : Addr} {od_plus an_plus : Option Addr} {sl_plus : Array (Option Value)} {oc_plus kV_plus dc_plus pm_plus cd_plus ct_plus : Value}
    {f_minus : Addr} {od_minus an_minus : Option Addr} {sl_minus : Array (Option Value)} {oc_minus kV_minus dc_minus pm_minus cd_minus ct_minus : Value}
    {f_times : Addr} {od_times an_times : Option Addr} {sl_times : Array (Option Value)} {oc_times kV_times dc_times pm_times cd_times ct_times : Value}
    {f_grains_in_one : Addr} {od_grains_in_one an_grains_in_one : Option Addr} {sl_grains_in_one : Array (Option Value)} {oc_grains_in_one kV_grains_in_one dc_grains_in_one pm_grains_in_one cd_grains_in_one ct_grains_in_one : Value}
    {f_in_grains : Addr} {od_in_grains an_in_grains : Option Addr} {sl_in_grains : Array (Option Value)} {oc_in_grains kV_in_grains dc_in_grains pm_in_grains cd_in_grains ct_in_grains : Value}
    {f_rounded_up : Addr} {od_rounded_up an_rounded_up : Option Addr} {sl_rounded_up : Array (Option Value)} {oc_rounded_up kV_rounded_up dc_rounded_up pm_rounded_up cd_rounded_up ct_rounded_up : Value}
    {f_is_sort_number : Addr} {od_is_sort_number an_is_sort_number : Option Addr} {sl_is_sort_number : Array (Option Value)} {oc_is_sort_number kV_is_sort_number dc_is_sort_number pm_is_sort_number cd_is_sort_number ct_is_sort_number : Value}
    {f_check_pair : Addr} {od_check_pair an_check_pair : Option Addr} {sl_check_pair : Array (Option Value)} {oc_check_pair kV_check_pair dc_check_pair pm_check_pair cd_check_pair ct_check_pair : Value}
    {f_part_of : Addr} {od_part_of an_part_of : Option Addr} {sl_part_of : Array (Option Value)} {oc_part_of kV_part_of dc_part_of pm_part_of cd_part_of ct_part_of : Value}
    {f_room_of : Addr} {od_room_of an_room_of : Option Addr} {sl_room_of : Array (Option Value)} {oc_room_of kV_room_of dc_room_of pm_room_of cd_room_of ct_room_of : Value}
    {f_room : Addr} {od_room an_room : Option Addr} {sl_room : Array (Option Value)} {oc_room kV_room dc_room pm_room cd_room ct_room : Value}
    {f_grains_of : Addr} {od_grains_of an_grains_of : Option Addr} {sl_grains_of : Array (Option Value)} {oc_grains_of kV_grains_of dc_grains_of pm_grains_of cd_grains_of ct_grains_of : Value}
    {f_onsets : Addr} {od_onsets an_onsets : Option Addr} {sl_onsets : Array (Option Value)} {oc_onsets kV_onsets dc_onsets pm_onsets cd_onsets ct_onsets : Value}
    {f_overshoots : Addr} {od_overshoots an_overshoots : Option Addr} {sl_overshoots : Array (Option Value)} {oc_overshoots kV_overshoots dc_overshoots pm_overshoots cd_overshoots ct_overshoots : Value}
    {f_least_breach : Addr} {od_least_breach an_least_breach : Option Addr} {sl_least_breach : Array (Option Value)} {oc_least_breach kV_least_breach dc_least_breach pm_least_breach cd_least_breach ct_least_breach : Value}
    {f_calm_kind : Addr} {od_calm_kind an_calm_kind : Option Addr} {sl_calm_kind : Array (Option Value)} {oc_calm_kind kV_calm_kind dc_calm_kind pm_calm_kind cd_calm_kind ct_calm_kind : Value}
    {f_calm : Addr} {od_calm an_calm : Option Addr} {sl_calm : Array (Option Value)} {oc_calm kV_calm dc_calm pm_calm cd_calm ct_calm : Value}
    {f_calm_singly : Addr} {od_calm_singly an_calm_singly : Option Addr} {sl_calm_singly : Array (Option Value)} {oc_calm_singly kV_calm_singly dc_calm_singly pm_calm_singly cd_calm_singly ct_calm_singly : Value}
    {f_breach : Addr} {od_breach an_breach : Option Addr} {sl_breach : Array (Option Value)} {oc_breach kV_breach dc_breach pm_breach cd_breach ct_breach : Value}
    {f_loss_of : Addr} {od_loss_of an_loss_of : Option Addr} {sl_loss_of : Array (Option Value)} {oc_loss_of kV_loss_of dc_loss_of pm_loss_of cd_loss_of ct_loss_of : Value}
    {f_loss : Addr} {od_loss an_loss : Option Addr} {sl_loss : Array (Option Value)} {oc_loss kV_loss dc_loss pm_loss cd_loss ct_loss : Value}
    {f__law_pool : Addr} {od__law_pool an__law_pool : Option Addr} {sl__law_pool : Array (Option Value)} {oc__law_pool kV__law_pool dc__law_pool pm__law_pool cd__law_pool ct__law_pool : Value}
    {f__law_draw : Addr} {od__law_draw an__law_draw : Option Addr} {sl__law_draw : Array (Option Value)} {oc__law_draw kV__law_draw dc__law_draw pm__law_draw cd__law_draw ct__law_draw : Value}
    {f__law_divisor : Addr} {od__law_divisor an__law_divisor : Option Addr} {sl__law_divisor : Array (Option Value)} {oc__law_divisor kV__law_divisor dc__law_divisor pm__law_divisor cd__law_divisor ct__law_divisor : Value}
    {f__law_lowest : Addr} {od__law_lowest an__law_lowest : Option Addr} {sl__law_lowest : Array (Option Value)} {oc__law_lowest kV__law_lowest dc__law_lowest pm__law_lowest cd__law_lowest ct__law_lowest : Value}
    {f__law_grains : Addr} {od__law_grains an__law_grains : Option Addr} {sl__law_grains : Array (Option Value)} {oc__law_grains kV__law_grains dc__law_grains pm__law_grains cd__law_grains ct__law_grains : Value}
    {f__law_room : Addr} {od__law_room an__law_room : Option Addr} {sl__law_room : Array (Option Value)} {oc__law_room kV__law_room dc__law_room pm__law_room cd__law_room ct__law_room : Value}
    {f__law_ascending : Addr} {od__law_ascending an__law_ascending : Option Addr} {sl__law_ascending : Array (Option Value)} {oc__law_ascending kV__law_ascending dc__law_ascending pm__law_ascending cd__law_ascending ct__law_ascending : Value}
    {f__law_flag : Addr} {od__law_flag an__law_flag : Option Addr} {sl__law_flag : Array (Option Value)} {oc__law_flag kV__law_flag dc__law_flag pm__law_flag cd__law_flag ct__law_flag : Value}
    {f__law_one_right : Addr} {od__law_one_right an__law_one_right : Option Addr} {sl__law_one_right : Array (Option Value)} {oc__law_one_right kV__law_one_right dc__law_one_right pm__law_one_right cd__law_one_right ct__law_one_right : Value}
    {f__law_sea_right : Addr} {od__law_sea_right an__law_sea_right : Option Addr} {sl__law_sea_right : Array (Option Value)} {oc__law_sea_right kV__law_sea_right dc__law_sea_right pm__law_sea_right cd__law_sea_right ct__law_sea_right : Value}
    {f__law_two_right : Addr} {od__law_two_right an__law_two_right : Option Addr} {sl__law_two_right : Array (Option Value)} {oc__law_two_right kV__law_two_right dc__law_two_right pm__law_two_right cd__law_two_right ct__law_two_right : Value}
    {fi_NoSort : Addr} {nm_NoSort qn_NoSort : Str} {N_NoSort : Addr} {bs_NoSort bm_NoSort : List Value} {sn_NoSort : List Str} {sub_NoSort : List Value} {ab_NoSort : Bool} {col_NoSort : Option Bool} {dd_NoSort : Option Addr} {m0_NoSort m1_NoSort m2_NoSort m3_NoSort m5_NoSort : Option Value} {oci_NoSort : Value} {odi_NoSort : Option Addr} {dci_NoSort pmi_NoSort : Value} {ani_NoSort : Option Addr} {cdi_NoSort cti_NoSort : Value} {sli_NoSort : Array (Option Value)}
    {fi_NotCalm : Addr} {nm_NotCalm qn_NotCalm : Str} {N_NotCalm : Addr} {bs_NotCalm bm_NotCalm : List Value} {sn_NotCalm : List Str} {sub_NotCalm : List Value} {ab_NotCalm : Bool} {col_NotCalm : Option Bool} {dd_NotCalm : Option Addr} {m0_NotCalm m1_NotCalm m2_NotCalm m3_NotCalm m5_NotCalm : Option Value} {oci_NotCalm : Value} {odi_NotCalm : Option Addr} {dci_NotCalm pmi_NotCalm : Value} {ani_NotCalm : Option Addr} {cdi_NotCalm cti_NotCalm : Value} {sli_NotCalm : Array (Option Value)}
    {nm_BadBook qn_BadBook : Str} {N_BadBook : Addr} {bs_BadBook bm_BadBook : List Value} {sn_BadBook : List Str} {sub_BadBook : List Value} {ab_BadBook : Bool} {col_BadBook : Option Bool} {dd_BadBook : Option Addr} {m0_BadBook m1_BadBook m2_BadBook m3_BadBook m5_BadBook : Option Value}
    {f_BadBook__init__ : Addr} {od_BadBook__init__ an_BadBook__init__ : Option Addr} {sl_BadBook__init__ : Array (Option Value)} {oc_BadBook__init__ kV_BadBook__init__ dc_BadBook__init__ pm_BadBook__init__ cd_BadBook__init__ ct_BadBook__init__ : Value}
    {t_MOST_BOTTOM : Tok}
    {t_MOST_CAP : Tok}
    {t_MOST_KINDS : Tok}
    {t_MOST_SORTS : Tok}
    {t_MOST_THRESHOLDS : Tok}
    {t_MOST_TOP : Tok}
    {t_MOST_WIDTH : Tok}
    {tp_NOTHING : Addr} {to_NOTHING : Option Addr} {tn_NOTHING : Nat} {ts_NOTHING : Array (Option Value)} {tt0_NOTHING tt1_NOTHING : Tok}
    {f_law : Addr} {od_law an_law : Option Addr} {sl_law : Array (Option Value)} {oc_law kV_law dc_law pm_law ct_law cd_law : Value}
    (aC_NoSort : PySem.W.nsIn K mainGlobals "NoSort" = some (some (.ref C_NoSort)))
    (aC_NotCalm : PySem.W.nsIn K mainGlobals "NotCalm" = some (some (.ref C_NotCalm)))
    (aC_Book : PySem.W.nsIn K mainGlobals "Book" = some (some (.ref C_Book)))
    (aC_TidesError : PySem.W.nsIn K mainGlobals "TidesError" = some (some (.ref C_TidesError)))
    (aC_BadBook : PySem.W.nsIn K mainGlobals "BadBook" = some (some (.ref C_BadBook)))
    (a_is_integer : PySem.W.nsIn K mainGlobals "is_integer" = some (some (.ref f_is_integer)))
    (l_is_integer : K.lookup f_is_integer = some ⟨oc_is_integer, od_is_integer, .func (PySem.W.fnOf "is_integer" "is_integer" (defArgs s_is_integer) (defBody s_is_integer) (defScope s_is_integer) .none kV_is_integer dc_is_integer pm_is_integer an_is_integer cd_is_integer ct_is_integer), sl_is_integer⟩)
    (c_is_integer : PySem.W.codeIn K cd_is_integer "is_integer" = true)
    (k_is_integer : PySem.W.keepIn K (.ref f_is_integer) = true)
    (a_is_between : PySem.W.nsIn K mainGlobals "is_between" = some (some (.ref f_is_between)))
    (l_is_between : K.lookup f_is_between = some ⟨oc_is_between, od_is_between, .func (PySem.W.fnOf "is_between" "is_between" (defArgs s_is_between) (defBody s_is_between) (defScope s_is_between) .none kV_is_between dc_is_between pm_is_between an_is_between cd_is_between ct_is_between), sl_is_between⟩)
    (c_is_between : PySem.W.codeIn K cd_is_between "is_between" = true)
    (k_is_between : PySem.W.keepIn K (.ref f_is_between) = true)
    (a_is_tuple_of : PySem.W.nsIn K mainGlobals "is_tuple_of" = some (some (.ref f_is_tuple_of)))
    (l_is_tuple_of : K.lookup f_is_tuple_of = some ⟨oc_is_tuple_of, od_is_tuple_of, .func (PySem.W.fnOf "is_tuple_of" "is_tuple_of" (defArgs s_is_tuple_of) (defBody s_is_tuple_of) (defScope s_is_tuple_of) .none kV_is_tuple_of dc_is_tuple_of pm_is_tuple_of an_is_tuple_of cd_is_tuple_of ct_is_tuple_of), sl_is_tuple_of⟩)
    (c_is_tuple_of : PySem.W.codeIn K cd_is_tuple_of "is_tuple_of" = true)
    (k_is_tuple_of : PySem.W.keepIn K (.ref f_is_tuple_of) = true)
    (a_is_fraction : PySem.W.nsIn K mainGlobals "is_fraction" = some (some (.ref f_is_fraction)))
    (l_is_fraction : K.lookup f_is_fraction = some ⟨oc_is_fraction, od_is_fraction, .func (PySem.W.fnOf "is_fraction" "is_fraction" (defArgs s_is_fraction) (defBody s_is_fraction) (defScope s_is_fraction) .none kV_is_fraction dc_is_fraction pm_is_fraction an_is_fraction cd_is_fraction ct_is_fraction), sl_is_fraction⟩)
    (c_is_fraction : PySem.W.codeIn K cd_is_fraction "is_fraction" = true)
    (k_is_fraction : PySem.W.keepIn K (.ref f_is_fraction) = true)
    (a_at_most : PySem.W.nsIn K mainGlobals "at_most" = some (some (.ref f_at_most)))
    (l_at_most : K.lookup f_at_most = some ⟨oc_at_most, od_at_most, .func (PySem.W.fnOf "at_most" "at_most" (defArgs s_at_most) (defBody s_at_most) (defScope s_at_most) .none kV_at_most dc_at_most pm_at_most an_at_most cd_at_most ct_at_most), sl_at_most⟩)
    (c_at_most : PySem.W.codeIn K cd_at_most "at_most" = true)
    (k_at_most : PySem.W.keepIn K (.ref f_at_most) = true)
    (a_is_threshold : PySem.W.nsIn K mainGlobals "is_threshold" = some (some (.ref f_is_threshold)))
    (l_is_threshold : K.lookup f_is_threshold = some ⟨oc_is_threshold, od_is_threshold, .func (PySem.W.fnOf "is_threshold" "is_threshold" (defArgs s_is_threshold) (defBody s_is_threshold) (defScope s_is_threshold) .none kV_is_threshold dc_is_threshold pm_is_threshold an_is_threshold cd_is_threshold ct_is_threshold), sl_is_threshold⟩)
    (c_is_threshold : PySem.W.codeIn K cd_is_threshold "is_threshold" = true)
    (k_is_threshold : PySem.W.keepIn K (.ref f_is_threshold) = true)
    (a_is_list : PySem.W.nsIn K mainGlobals "is_list" = some (some (.ref f_is_list)))
    (l_is_list : K.lookup f_is_list = some ⟨oc_is_list, od_is_list, .func (PySem.W.fnOf "is_list" "is_list" (defArgs s_is_list) (defBody s_is_list) (defScope s_is_list) .none kV_is_list dc_is_list pm_is_list an_is_list cd_is_list ct_is_list), sl_is_list⟩)
    (c_is_list : PySem.W.codeIn K cd_is_list "is_list" = true)
    (k_is_list : PySem.W.keepIn K (.ref f_is_list) = true)
    (a_ascends : PySem.W.nsIn K mainGlobals "ascends" = some (some (.ref f_ascends)))
    (l_ascends : K.lookup f_ascends = some ⟨oc_ascends, od_ascends, .func (PySem.W.fnOf "ascends" "ascends" (defArgs s_ascends) (defBody s_ascends) (defScope s_ascends) .none kV_ascends dc_ascends pm_ascends an_ascends cd_ascends ct_ascends), sl_ascends⟩)
    (c_ascends : PySem.W.codeIn K cd_ascends "ascends" = true)
    (k_ascends : PySem.W.keepIn K (.ref f_ascends) = true)
    (a_is_width : PySem.W.nsIn K mainGlobals "is_width" = some (some (.ref f_is_width)))
    (l_is_width : K.lookup f_is_width = some ⟨oc_is_width, od_is_width, .func (PySem.W.fnOf "is_width" "is_width" (defArgs s_is_width) (defBody s_is_width) (defScope s_is_width) .none kV_is_width dc_is_width pm_is_width an_is_width cd_is_width ct_is_width), sl_is_width⟩)
    (c_is_width : PySem.W.codeIn K cd_is_width "is_width" = true)
    (k_is_width : PySem.W.keepIn K (.ref f_is_width) = true)
    (a_is_sort : PySem.W.nsIn K mainGlobals "is_sort" = some (some (.ref f_is_sort)))
    (l_is_sort : K.lookup f_is_sort = some ⟨oc_is_sort, od_is_sort, .func (PySem.W.fnOf "is_sort" "is_sort" (defArgs s_is_sort) (defBody s_is_sort) (defScope s_is_sort) .none kV_is_sort dc_is_sort pm_is_sort an_is_sort cd_is_sort ct_is_sort), sl_is_sort⟩)
    (c_is_sort : PySem.W.codeIn K cd_is_sort "is_sort" = true)
    (k_is_sort : PySem.W.keepIn K (.ref f_is_sort) = true)
    (a_is_sort_tuple : PySem.W.nsIn K mainGlobals "is_sort_tuple" = some (some (.ref f_is_sort_tuple)))
    (l_is_sort_tuple : K.lookup f_is_sort_tuple = some ⟨oc_is_sort_tuple, od_is_sort_tuple, .func (PySem.W.fnOf "is_sort_tuple" "is_sort_tuple" (defArgs s_is_sort_tuple) (defBody s_is_sort_tuple) (defScope s_is_sort_tuple) .none kV_is_sort_tuple dc_is_sort_tuple pm_is_sort_tuple an_is_sort_tuple cd_is_sort_tuple ct_is_sort_tuple), sl_is_sort_tuple⟩)
    (c_is_sort_tuple : PySem.W.codeIn K cd_is_sort_tuple "is_sort_tuple" = true)
    (k_is_sort_tuple : PySem.W.keepIn K (.ref f_is_sort_tuple) = true)
    (a_is_join : PySem.W.nsIn K mainGlobals "is_join" = some (some (.ref f_is_join)))
    (l_is_join : K.lookup f_is_join = some ⟨oc_is_join, od_is_join, .func (PySem.W.fnOf "is_join" "is_join" (defArgs s_is_join) (defBody s_is_join) (defScope s_is_join) .none kV_is_join dc_is_join pm_is_join an_is_join cd_is_join ct_is_join), sl_is_join⟩)
    (c_is_join : PySem.W.codeIn K cd_is_join "is_join" = true)
    (k_is_join : PySem.W.keepIn K (.ref f_is_join) = true)
    (a_is_kind : PySem.W.nsIn K mainGlobals "is_kind" = some (some (.ref f_is_kind)))
    (l_is_kind : K.lookup f_is_kind = some ⟨oc_is_kind, od_is_kind, .func (PySem.W.fnOf "is_kind" "is_kind" (defArgs s_is_kind) (defBody s_is_kind) (defScope s_is_kind) .none kV_is_kind dc_is_kind pm_is_kind an_is_kind cd_is_kind ct_is_kind), sl_is_kind⟩)
    (c_is_kind : PySem.W.codeIn K cd_is_kind "is_kind" = true)
    (k_is_kind : PySem.W.keepIn K (.ref f_is_kind) = true)
    (a_Book__init__ : PySem.W.findIn K (.ref C_Book) "__init__" = some (some (.ref f_Book__init__)))
    (l_Book__init__ : K.lookup f_Book__init__ = some ⟨oc_Book__init__, od_Book__init__, .func (PySem.W.fnOf "__init__" "Book.__init__" (defArgs s_Book__init__) (defBody s_Book__init__) (defScope s_Book__init__) .none kV_Book__init__ dc_Book__init__ pm_Book__init__ an_Book__init__ cd_Book__init__ ct_Book__init__), sl_Book__init__⟩)
    (c_Book__init__ : PySem.W.codeIn K cd_Book__init__ "Book.__init__" = true)
    (k_Book__init__ : PySem.W.keepIn K (.ref f_Book__init__) = true)
    (a_Book__eq__ : PySem.W.findIn K (.ref C_Book) "__eq__" = some (some (.ref f_Book__eq__)))
    (l_Book__eq__ : K.lookup f_Book__eq__ = some ⟨oc_Book__eq__, od_Book__eq__, .func (PySem.W.fnOf "__eq__" "Book.__eq__" (defArgs s_Book__eq__) (defBody s_Book__eq__) (defScope s_Book__eq__) .none kV_Book__eq__ dc_Book__eq__ pm_Book__eq__ an_Book__eq__ cd_Book__eq__ ct_Book__eq__), sl_Book__eq__⟩)
    (c_Book__eq__ : PySem.W.codeIn K cd_Book__eq__ "Book.__eq__" = true)
    (k_Book__eq__ : PySem.W.keepIn K (.ref f_Book__eq__) = true)
    (a_fraction : PySem.W.nsIn K mainGlobals "fraction" = some (some (.ref f_fraction)))
    (l_fraction : K.lookup f_fraction = some ⟨oc_fraction, od_fraction, .func (PySem.W.fnOf "fraction" "fraction" (defArgs s_fraction) (defBody s_fraction) (defScope s_fraction) .none kV_fraction dc_fraction pm_fraction an_fraction cd_fraction ct_fraction), sl_fraction⟩)
    (c_fraction : PySem.W.codeIn K cd_fraction "fraction" = true)
    (k_fraction : PySem.W.keepIn K (.ref f_fraction) = true)
    (a_plus : PySem.W.nsIn K mainGlobals "plus" = some (some (.ref f_plus)))
    (l_plus : K.lookup f_plus = some ⟨oc_plus, od_plus, .func (PySem.W.fnOf "plus" "plus" (defArgs s_plus) (defBody s_plus) (defScope s_plus) .none kV_plus dc_plus pm_plus an_plus cd_plus ct_plus), sl_plus⟩)
    (c_plus : PySem.W.codeIn K cd_plus "plus" = true)
    (k_plus : PySem.W.keepIn K (.ref f_plus) = true)
    (a_minus : PySem.W.nsIn K mainGlobals "minus" = some (some (.ref f_minus)))
    (l_minus : K.lookup f_minus = some ⟨oc_minus, od_minus, .func (PySem.W.fnOf "minus" "minus" (defArgs s_minus) (defBody s_minus) (defScope s_minus) .none kV_minus dc_minus pm_minus an_minus cd_minus ct_minus), sl_minus⟩)
    (c_minus : PySem.W.codeIn K cd_minus "minus" = true)
    (k_minus : PySem.W.keepIn K (.ref f_minus) = true)
    (a_times : PySem.W.nsIn K mainGlobals "times" = some (some (.ref f_times)))
    (l_times : K.lookup f_times = some ⟨oc_times, od_times, .func (PySem.W.fnOf "times" "times" (defArgs s_times) (defBody s_times) (defScope s_times) .none kV_times dc_times pm_times an_times cd_times ct_times), sl_times⟩)
    (c_times : PySem.W.codeIn K cd_times "times" = true)
    (k_times : PySem.W.keepIn K (.ref f_times) = true)
    (a_grains_in_one : PySem.W.nsIn K mainGlobals "grains_in_one" = some (some (.ref f_grains_in_one)))
    (l_grains_in_one : K.lookup f_grains_in_one = some ⟨oc_grains_in_one, od_grains_in_one, .func (PySem.W.fnOf "grains_in_one" "grains_in_one" (defArgs s_grains_in_one) (defBody s_grains_in_one) (defScope s_grains_in_one) .none kV_grains_in_one dc_grains_in_one pm_grains_in_one an_grains_in_one cd_grains_in_one ct_grains_in_one), sl_grains_in_one⟩)
    (c_grains_in_one : PySem.W.codeIn K cd_grains_in_one "grains_in_one" = true)
    (k_grains_in_one : PySem.W.keepIn K (.ref f_grains_in_one) = true)
    (a_in_grains : PySem.W.nsIn K mainGlobals "in_grains" = some (some (.ref f_in_grains)))
    (l_in_grains : K.lookup f_in_grains = some ⟨oc_in_grains, od_in_grains, .func (PySem.W.fnOf "in_grains" "in_grains" (defArgs s_in_grains) (defBody s_in_grains) (defScope s_in_grains) .none kV_in_grains dc_in_grains pm_in_grains an_in_grains cd_in_grains ct_in_grains), sl_in_grains⟩)
    (c_in_grains : PySem.W.codeIn K cd_in_grains "in_grains" = true)
    (k_in_grains : PySem.W.keepIn K (.ref f_in_grains) = true)
    (a_rounded_up : PySem.W.nsIn K mainGlobals "rounded_up" = some (some (.ref f_rounded_up)))
    (l_rounded_up : K.lookup f_rounded_up = some ⟨oc_rounded_up, od_rounded_up, .func (PySem.W.fnOf "rounded_up" "rounded_up" (defArgs s_rounded_up) (defBody s_rounded_up) (defScope s_rounded_up) .none kV_rounded_up dc_rounded_up pm_rounded_up an_rounded_up cd_rounded_up ct_rounded_up), sl_rounded_up⟩)
    (c_rounded_up : PySem.W.codeIn K cd_rounded_up "rounded_up" = true)
    (k_rounded_up : PySem.W.keepIn K (.ref f_rounded_up) = true)
    (a_is_sort_number : PySem.W.nsIn K mainGlobals "is_sort_number" = some (some (.ref f_is_sort_number)))
    (l_is_sort_number : K.lookup f_is_sort_number = some ⟨oc_is_sort_number, od_is_sort_number, .func (PySem.W.fnOf "is_sort_number" "is_sort_number" (defArgs s_is_sort_number) (defBody s_is_sort_number) (defScope s_is_sort_number) .none kV_is_sort_number dc_is_sort_number pm_is_sort_number an_is_sort_number cd_is_sort_number ct_is_sort_number), sl_is_sort_number⟩)
    (c_is_sort_number : PySem.W.codeIn K cd_is_sort_number "is_sort_number" = true)
    (k_is_sort_number : PySem.W.keepIn K (.ref f_is_sort_number) = true)
    (a_check_pair : PySem.W.nsIn K mainGlobals "check_pair" = some (some (.ref f_check_pair)))
    (l_check_pair : K.lookup f_check_pair = some ⟨oc_check_pair, od_check_pair, .func (PySem.W.fnOf "check_pair" "check_pair" (defArgs s_check_pair) (defBody s_check_pair) (defScope s_check_pair) .none kV_check_pair dc_check_pair pm_check_pair an_check_pair cd_check_pair ct_check_pair), sl_check_pair⟩)
    (c_check_pair : PySem.W.codeIn K cd_check_pair "check_pair" = true)
    (k_check_pair : PySem.W.keepIn K (.ref f_check_pair) = true)
    (a_part_of : PySem.W.nsIn K mainGlobals "part_of" = some (some (.ref f_part_of)))
    (l_part_of : K.lookup f_part_of = some ⟨oc_part_of, od_part_of, .func (PySem.W.fnOf "part_of" "part_of" (defArgs s_part_of) (defBody s_part_of) (defScope s_part_of) .none kV_part_of dc_part_of pm_part_of an_part_of cd_part_of ct_part_of), sl_part_of⟩)
    (c_part_of : PySem.W.codeIn K cd_part_of "part_of" = true)
    (k_part_of : PySem.W.keepIn K (.ref f_part_of) = true)
    (a_room_of : PySem.W.nsIn K mainGlobals "room_of" = some (some (.ref f_room_of)))
    (l_room_of : K.lookup f_room_of = some ⟨oc_room_of, od_room_of, .func (PySem.W.fnOf "room_of" "room_of" (defArgs s_room_of) (defBody s_room_of) (defScope s_room_of) .none kV_room_of dc_room_of pm_room_of an_room_of cd_room_of ct_room_of), sl_room_of⟩)
    (c_room_of : PySem.W.codeIn K cd_room_of "room_of" = true)
    (k_room_of : PySem.W.keepIn K (.ref f_room_of) = true)
    (a_room : PySem.W.nsIn K mainGlobals "room" = some (some (.ref f_room)))
    (l_room : K.lookup f_room = some ⟨oc_room, od_room, .func (PySem.W.fnOf "room" "room" (defArgs s_room) (defBody s_room) (defScope s_room) .none kV_room dc_room pm_room an_room cd_room ct_room), sl_room⟩)
    (c_room : PySem.W.codeIn K cd_room "room" = true)
    (k_room : PySem.W.keepIn K (.ref f_room) = true)
    (a_grains_of : PySem.W.nsIn K mainGlobals "grains_of" = some (some (.ref f_grains_of)))
    (l_grains_of : K.lookup f_grains_of = some ⟨oc_grains_of, od_grains_of, .func (PySem.W.fnOf "grains_of" "grains_of" (defArgs s_grains_of) (defBody s_grains_of) (defScope s_grains_of) .none kV_grains_of dc_grains_of pm_grains_of an_grains_of cd_grains_of ct_grains_of), sl_grains_of⟩)
    (c_grains_of : PySem.W.codeIn K cd_grains_of "grains_of" = true)
    (k_grains_of : PySem.W.keepIn K (.ref f_grains_of) = true)
    (a_onsets : PySem.W.nsIn K mainGlobals "onsets" = some (some (.ref f_onsets)))
    (l_onsets : K.lookup f_onsets = some ⟨oc_onsets, od_onsets, .func (PySem.W.fnOf "onsets" "onsets" (defArgs s_onsets) (defBody s_onsets) (defScope s_onsets) .none kV_onsets dc_onsets pm_onsets an_onsets cd_onsets ct_onsets), sl_onsets⟩)
    (c_onsets : PySem.W.codeIn K cd_onsets "onsets" = true)
    (k_onsets : PySem.W.keepIn K (.ref f_onsets) = true)
    (a_overshoots : PySem.W.nsIn K mainGlobals "overshoots" = some (some (.ref f_overshoots)))
    (l_overshoots : K.lookup f_overshoots = some ⟨oc_overshoots, od_overshoots, .func (PySem.W.fnOf "overshoots" "overshoots" (defArgs s_overshoots) (defBody s_overshoots) (defScope s_overshoots) .none kV_overshoots dc_overshoots pm_overshoots an_overshoots cd_overshoots ct_overshoots), sl_overshoots⟩)
    (c_overshoots : PySem.W.codeIn K cd_overshoots "overshoots" = true)
    (k_overshoots : PySem.W.keepIn K (.ref f_overshoots) = true)
    (a_least_breach : PySem.W.nsIn K mainGlobals "least_breach" = some (some (.ref f_least_breach)))
    (l_least_breach : K.lookup f_least_breach = some ⟨oc_least_breach, od_least_breach, .func (PySem.W.fnOf "least_breach" "least_breach" (defArgs s_least_breach) (defBody s_least_breach) (defScope s_least_breach) .none kV_least_breach dc_least_breach pm_least_breach an_least_breach cd_least_breach ct_least_breach), sl_least_breach⟩)
    (c_least_breach : PySem.W.codeIn K cd_least_breach "least_breach" = true)
    (k_least_breach : PySem.W.keepIn K (.ref f_least_breach) = true)
    (a_calm_kind : PySem.W.nsIn K mainGlobals "calm_kind" = some (some (.ref f_calm_kind)))
    (l_calm_kind : K.lookup f_calm_kind = some ⟨oc_calm_kind, od_calm_kind, .func (PySem.W.fnOf "calm_kind" "calm_kind" (defArgs s_calm_kind) (defBody s_calm_kind) (defScope s_calm_kind) .none kV_calm_kind dc_calm_kind pm_calm_kind an_calm_kind cd_calm_kind ct_calm_kind), sl_calm_kind⟩)
    (c_calm_kind : PySem.W.codeIn K cd_calm_kind "calm_kind" = true)
    (k_calm_kind : PySem.W.keepIn K (.ref f_calm_kind) = true)
    (a_calm : PySem.W.nsIn K mainGlobals "calm" = some (some (.ref f_calm)))
    (l_calm : K.lookup f_calm = some ⟨oc_calm, od_calm, .func (PySem.W.fnOf "calm" "calm" (defArgs s_calm) (defBody s_calm) (defScope s_calm) .none kV_calm dc_calm pm_calm an_calm cd_calm ct_calm), sl_calm⟩)
    (c_calm : PySem.W.codeIn K cd_calm "calm" = true)
    (k_calm : PySem.W.keepIn K (.ref f_calm) = true)
    (a_calm_singly : PySem.W.nsIn K mainGlobals "calm_singly" = some (some (.ref f_calm_singly)))
    (l_calm_singly : K.lookup f_calm_singly = some ⟨oc_calm_singly, od_calm_singly, .func (PySem.W.fnOf "calm_singly" "calm_singly" (defArgs s_calm_singly) (defBody s_calm_singly) (defScope s_calm_singly) .none kV_calm_singly dc_calm_singly pm_calm_singly an_calm_singly cd_calm_singly ct_calm_singly), sl_calm_singly⟩)
    (c_calm_singly : PySem.W.codeIn K cd_calm_singly "calm_singly" = true)
    (k_calm_singly : PySem.W.keepIn K (.ref f_calm_singly) = true)
    (a_breach : PySem.W.nsIn K mainGlobals "breach" = some (some (.ref f_breach)))
    (l_breach : K.lookup f_breach = some ⟨oc_breach, od_breach, .func (PySem.W.fnOf "breach" "breach" (defArgs s_breach) (defBody s_breach) (defScope s_breach) .none kV_breach dc_breach pm_breach an_breach cd_breach ct_breach), sl_breach⟩)
    (c_breach : PySem.W.codeIn K cd_breach "breach" = true)
    (k_breach : PySem.W.keepIn K (.ref f_breach) = true)
    (a_loss_of : PySem.W.nsIn K mainGlobals "loss_of" = some (some (.ref f_loss_of)))
    (l_loss_of : K.lookup f_loss_of = some ⟨oc_loss_of, od_loss_of, .func (PySem.W.fnOf "loss_of" "loss_of" (defArgs s_loss_of) (defBody s_loss_of) (defScope s_loss_of) .none kV_loss_of dc_loss_of pm_loss_of an_loss_of cd_loss_of ct_loss_of), sl_loss_of⟩)
    (c_loss_of : PySem.W.codeIn K cd_loss_of "loss_of" = true)
    (k_loss_of : PySem.W.keepIn K (.ref f_loss_of) = true)
    (a_loss : PySem.W.nsIn K mainGlobals "loss" = some (some (.ref f_loss)))
    (l_loss : K.lookup f_loss = some ⟨oc_loss, od_loss, .func (PySem.W.fnOf "loss" "loss" (defArgs s_loss) (defBody s_loss) (defScope s_loss) .none kV_loss dc_loss pm_loss an_loss cd_loss ct_loss), sl_loss⟩)
    (c_loss : PySem.W.codeIn K cd_loss "loss" = true)
    (k_loss : PySem.W.keepIn K (.ref f_loss) = true)
    (a__law_pool : PySem.W.nsIn K mainGlobals "_law_pool" = some (some (.ref f__law_pool)))
    (l__law_pool : K.lookup f__law_pool = some ⟨oc__law_pool, od__law_pool, .func (PySem.W.fnOf "_law_pool" "_law_pool" (defArgs s__law_pool) (defBody s__law_pool) (defScope s__law_pool) .none kV__law_pool dc__law_pool pm__law_pool an__law_pool cd__law_pool ct__law_pool), sl__law_pool⟩)
    (c__law_pool : PySem.W.codeIn K cd__law_pool "_law_pool" = true)
    (k__law_pool : PySem.W.keepIn K (.ref f__law_pool) = true)
    (a__law_draw : PySem.W.nsIn K mainGlobals "_law_draw" = some (some (.ref f__law_draw)))
    (l__law_draw : K.lookup f__law_draw = some ⟨oc__law_draw, od__law_draw, .func (PySem.W.fnOf "_law_draw" "_law_draw" (defArgs s__law_draw) (defBody s__law_draw) (defScope s__law_draw) .none kV__law_draw dc__law_draw pm__law_draw an__law_draw cd__law_draw ct__law_draw), sl__law_draw⟩)
    (c__law_draw : PySem.W.codeIn K cd__law_draw "_law_draw" = true)
    (k__law_draw : PySem.W.keepIn K (.ref f__law_draw) = true)
    (a__law_divisor : PySem.W.nsIn K mainGlobals "_law_divisor" = some (some (.ref f__law_divisor)))
    (l__law_divisor : K.lookup f__law_divisor = some ⟨oc__law_divisor, od__law_divisor, .func (PySem.W.fnOf "_law_divisor" "_law_divisor" (defArgs s__law_divisor) (defBody s__law_divisor) (defScope s__law_divisor) .none kV__law_divisor dc__law_divisor pm__law_divisor an__law_divisor cd__law_divisor ct__law_divisor), sl__law_divisor⟩)
    (c__law_divisor : PySem.W.codeIn K cd__law_divisor "_law_divisor" = true)
    (k__law_divisor : PySem.W.keepIn K (.ref f__law_divisor) = true)
    (a__law_lowest : PySem.W.nsIn K mainGlobals "_law_lowest" = some (some (.ref f__law_lowest)))
    (l__law_lowest : K.lookup f__law_lowest = some ⟨oc__law_lowest, od__law_lowest, .func (PySem.W.fnOf "_law_lowest" "_law_lowest" (defArgs s__law_lowest) (defBody s__law_lowest) (defScope s__law_lowest) .none kV__law_lowest dc__law_lowest pm__law_lowest an__law_lowest cd__law_lowest ct__law_lowest), sl__law_lowest⟩)
    (c__law_lowest : PySem.W.codeIn K cd__law_lowest "_law_lowest" = true)
    (k__law_lowest : PySem.W.keepIn K (.ref f__law_lowest) = true)
    (a__law_grains : PySem.W.nsIn K mainGlobals "_law_grains" = some (some (.ref f__law_grains)))
    (l__law_grains : K.lookup f__law_grains = some ⟨oc__law_grains, od__law_grains, .func (PySem.W.fnOf "_law_grains" "_law_grains" (defArgs s__law_grains) (defBody s__law_grains) (defScope s__law_grains) .none kV__law_grains dc__law_grains pm__law_grains an__law_grains cd__law_grains ct__law_grains), sl__law_grains⟩)
    (c__law_grains : PySem.W.codeIn K cd__law_grains "_law_grains" = true)
    (k__law_grains : PySem.W.keepIn K (.ref f__law_grains) = true)
    (a__law_room : PySem.W.nsIn K mainGlobals "_law_room" = some (some (.ref f__law_room)))
    (l__law_room : K.lookup f__law_room = some ⟨oc__law_room, od__law_room, .func (PySem.W.fnOf "_law_room" "_law_room" (defArgs s__law_room) (defBody s__law_room) (defScope s__law_room) .none kV__law_room dc__law_room pm__law_room an__law_room cd__law_room ct__law_room), sl__law_room⟩)
    (c__law_room : PySem.W.codeIn K cd__law_room "_law_room" = true)
    (k__law_room : PySem.W.keepIn K (.ref f__law_room) = true)
    (a__law_ascending : PySem.W.nsIn K mainGlobals "_law_ascending" = some (some (.ref f__law_ascending)))
    (l__law_ascending : K.lookup f__law_ascending = some ⟨oc__law_ascending, od__law_ascending, .func (PySem.W.fnOf "_law_ascending" "_law_ascending" (defArgs s__law_ascending) (defBody s__law_ascending) (defScope s__law_ascending) .none kV__law_ascending dc__law_ascending pm__law_ascending an__law_ascending cd__law_ascending ct__law_ascending), sl__law_ascending⟩)
    (c__law_ascending : PySem.W.codeIn K cd__law_ascending "_law_ascending" = true)
    (k__law_ascending : PySem.W.keepIn K (.ref f__law_ascending) = true)
    (a__law_flag : PySem.W.nsIn K mainGlobals "_law_flag" = some (some (.ref f__law_flag)))
    (l__law_flag : K.lookup f__law_flag = some ⟨oc__law_flag, od__law_flag, .func (PySem.W.fnOf "_law_flag" "_law_flag" (defArgs s__law_flag) (defBody s__law_flag) (defScope s__law_flag) .none kV__law_flag dc__law_flag pm__law_flag an__law_flag cd__law_flag ct__law_flag), sl__law_flag⟩)
    (c__law_flag : PySem.W.codeIn K cd__law_flag "_law_flag" = true)
    (k__law_flag : PySem.W.keepIn K (.ref f__law_flag) = true)
    (a__law_one_right : PySem.W.nsIn K mainGlobals "_law_one_right" = some (some (.ref f__law_one_right)))
    (l__law_one_right : K.lookup f__law_one_right = some ⟨oc__law_one_right, od__law_one_right, .func (PySem.W.fnOf "_law_one_right" "_law_one_right" (defArgs s__law_one_right) (defBody s__law_one_right) (defScope s__law_one_right) .none kV__law_one_right dc__law_one_right pm__law_one_right an__law_one_right cd__law_one_right ct__law_one_right), sl__law_one_right⟩)
    (c__law_one_right : PySem.W.codeIn K cd__law_one_right "_law_one_right" = true)
    (k__law_one_right : PySem.W.keepIn K (.ref f__law_one_right) = true)
    (a__law_sea_right : PySem.W.nsIn K mainGlobals "_law_sea_right" = some (some (.ref f__law_sea_right)))
    (l__law_sea_right : K.lookup f__law_sea_right = some ⟨oc__law_sea_right, od__law_sea_right, .func (PySem.W.fnOf "_law_sea_right" "_law_sea_right" (defArgs s__law_sea_right) (defBody s__law_sea_right) (defScope s__law_sea_right) .none kV__law_sea_right dc__law_sea_right pm__law_sea_right an__law_sea_right cd__law_sea_right ct__law_sea_right), sl__law_sea_right⟩)
    (c__law_sea_right : PySem.W.codeIn K cd__law_sea_right "_law_sea_right" = true)
    (k__law_sea_right : PySem.W.keepIn K (.ref f__law_sea_right) = true)
    (a__law_two_right : PySem.W.nsIn K mainGlobals "_law_two_right" = some (some (.ref f__law_two_right)))
    (l__law_two_right : K.lookup f__law_two_right = some ⟨oc__law_two_right, od__law_two_right, .func (PySem.W.fnOf "_law_two_right" "_law_two_right" (defArgs s__law_two_right) (defBody s__law_two_right) (defScope s__law_two_right) .none kV__law_two_right dc__law_two_right pm__law_two_right an__law_two_right cd__law_two_right ct__law_two_right), sl__law_two_right⟩)
    (c__law_two_right : PySem.W.codeIn K cd__law_two_right "_law_two_right" = true)
    (k__law_two_right : PySem.W.keepIn K (.ref f__law_two_right) = true)
    (xL_NoSort : K.lookup C_NoSort = some (excClassObj nm_NoSort qn_NoSort C_NoSort N_NoSort bs_NoSort bm_NoSort true sn_NoSort sub_NoSort ab_NoSort col_NoSort dd_NoSort m0_NoSort m1_NoSort m2_NoSort m3_NoSort m5_NoSort "ValueError.__new__"))
    (xr_NoSort : refsVE bm_NoSort = true)
    (xi_NoSort : PySem.W.findIn K (.ref C_NoSort) "__init__" = some (some (.ref fi_NoSort)))
    (xt_NoSort : PySem.W.typeIn K (.ref fi_NoSort) = some (.type "function"))
    (xk_NoSort : PySem.W.keepIn K (.ref C_NoSort) = true)
    (xs_NoSort : PySem.W.subIn K (.ref C_NoSort) (.type "BaseException") = some true)
    (xy_NoSort : PySem.W.typeIn K (.ref C_NoSort) = some (.type "type"))
    (xf_NoSort : K.lookup fi_NoSort = some ⟨oci_NoSort, odi_NoSort, .func (PySem.W.fnOf "__init__" "NoSort.__init__" (L3.xA ⟨36, 17, 36, 21⟩) (L3.xB ⟨37, 8, 37, 12⟩) L3.xS .none .none dci_NoSort pmi_NoSort ani_NoSort cdi_NoSort cti_NoSort), sli_NoSort⟩)
    (xc_NoSort : PySem.W.codeIn K cdi_NoSort "NoSort.__init__" = true)
    (xL_NotCalm : K.lookup C_NotCalm = some (excClassObj nm_NotCalm qn_NotCalm C_NotCalm N_NotCalm bs_NotCalm bm_NotCalm true sn_NotCalm sub_NotCalm ab_NotCalm col_NotCalm dd_NotCalm m0_NotCalm m1_NotCalm m2_NotCalm m3_NotCalm m5_NotCalm "ValueError.__new__"))
    (xr_NotCalm : refsVE bm_NotCalm = true)
    (xi_NotCalm : PySem.W.findIn K (.ref C_NotCalm) "__init__" = some (some (.ref fi_NotCalm)))
    (xt_NotCalm : PySem.W.typeIn K (.ref fi_NotCalm) = some (.type "function"))
    (xk_NotCalm : PySem.W.keepIn K (.ref C_NotCalm) = true)
    (xs_NotCalm : PySem.W.subIn K (.ref C_NotCalm) (.type "BaseException") = some true)
    (xy_NotCalm : PySem.W.typeIn K (.ref C_NotCalm) = some (.type "type"))
    (xf_NotCalm : K.lookup fi_NotCalm = some ⟨oci_NotCalm, odi_NotCalm, .func (PySem.W.fnOf "__init__" "NotCalm.__init__" (L3.xA ⟨40, 17, 40, 21⟩) (L3.xB ⟨41, 8, 41, 12⟩) L3.xS .none .none dci_NotCalm pmi_NotCalm ani_NotCalm cdi_NotCalm cti_NotCalm), sli_NotCalm⟩)
    (xc_NotCalm : PySem.W.codeIn K cdi_NotCalm "NotCalm.__init__" = true)
    (xL_BadBook : K.lookup C_BadBook = some (excClassObj nm_BadBook qn_BadBook C_BadBook N_BadBook bs_BadBook bm_BadBook true sn_BadBook sub_BadBook ab_BadBook col_BadBook dd_BadBook m0_BadBook m1_BadBook m2_BadBook m3_BadBook m5_BadBook "ValueError.__new__"))
    (xr_BadBook : refsVE bm_BadBook = true)
    (xi_BadBook : PySem.W.findIn K (.ref C_BadBook) "__init__" = some (some (.ref f_BadBook__init__)))
    (l_BadBook__init__ : K.lookup f_BadBook__init__ = some ⟨oc_BadBook__init__, od_BadBook__init__, .func (PySem.W.fnOf "__init__" "BadBook.__init__" (defArgs sx_BadBook) (defBody sx_BadBook) (defScope sx_BadBook) .none kV_BadBook__init__ dc_BadBook__init__ pm_BadBook__init__ an_BadBook__init__ cd_BadBook__init__ ct_BadBook__init__), sl_BadBook__init__⟩)
    (c_BadBook__init__ : PySem.W.codeIn K cd_BadBook__init__ "BadBook.__init__" = true)
    (k_BadBook__init__ : PySem.W.keepIn K (.ref f_BadBook__init__) = true)
    (xt_BadBook : PySem.W.typeIn K (.ref f_BadBook__init__) = some (.type "function"))
    (xk_BadBook : PySem.W.keepIn K (.ref C_BadBook) = true)
    (xs_BadBook : PySem.W.subIn K (.ref C_BadBook) (.type "BaseException") = some true)
    (xy_BadBook : PySem.W.typeIn K (.ref C_BadBook) = some (.type "type"))
    (xsa_BadBook : PySem.W.findIn K (.ref C_BadBook) "__setattr__" = some (some (.builtin "object.__setattr__")))
    (xga_BadBook : PySem.W.findIn K (.ref C_BadBook) "__getattribute__" = some (some (.builtin "BaseException.__getattribute__")))
    (xgg_BadBook : PySem.W.findIn K (.ref C_BadBook) "__getattr__" = some none)
    (xhd_BadBook : PySem.W.hasDictIn K C_BadBook = true)
    (no_BadBook : PySem.W.findIn K (.ref C_BadBook) "part" = some none)
    (wm_Book : PySem.W.makesIn K C_Book = true)
    (wf_Book : PySem.W.isFn K (.ref f_Book__init__) = true)
    (wk_Book : PySem.W.keepIn K (.ref C_Book) = true)
    (wp_Book : PySem.W.plainGet K C_Book Str.empty = true)
    (wd_Book : PySem.W.hasDictIn K C_Book = true)
    (wo_Book : PySem.W.plainOver K C_Book = true)
    (ws_Book : PySem.W.findIn K (.ref C_Book) "__setattr__" = some (some (.builtin "object.__setattr__")))
    (wc_Book : PySem.W.findIn K (.ref C_Book) "__class__" = some (some (.builtin "object.__class__")))
    (wg_Book : PySem.W.specialIn K (.builtin "object.__class__") "__get__" = some (some (.builtin "getset_descriptor.__get__")))
    (wt_Book : PySem.W.takesIn K (.builtin "object.__class__") = some true)
    (wr_Book : PySem.W.mroIn K C_Book (.type "object") = some true)
    (wint_Book : PySem.W.subIn K (.ref C_Book) (.type "int") = some false)
    (wbool_Book : PySem.W.subIn K (.ref C_Book) (.type "bool") = some false)
    (wstr_Book : PySem.W.subIn K (.ref C_Book) (.type "str") = some false)
    (wtuple_Book : PySem.W.subIn K (.ref C_Book) (.type "tuple") = some false)
    (wlist_Book : PySem.W.subIn K (.ref C_Book) (.type "list") = some false)
    (na_Book_kinds : PySem.W.findIn K (.ref C_Book) "kinds" = some none)
    (na_Book_sorts : PySem.W.findIn K (.ref C_Book) "sorts" = some none)
    (z_abs : PySem.W.nsIn K mainGlobals "abs" = some none)
    (z_all : PySem.W.nsIn K mainGlobals "all" = some none)
    (z_bool : PySem.W.nsIn K mainGlobals "bool" = some none)
    (z_enumerate : PySem.W.nsIn K mainGlobals "enumerate" = some none)
    (z_int : PySem.W.nsIn K mainGlobals "int" = some none)
    (z_isinstance : PySem.W.nsIn K mainGlobals "isinstance" = some none)
    (z_len : PySem.W.nsIn K mainGlobals "len" = some none)
    (z_list : PySem.W.nsIn K mainGlobals "list" = some none)
    (z_max : PySem.W.nsIn K mainGlobals "max" = some none)
    (z_range : PySem.W.nsIn K mainGlobals "range" = some none)
    (z_tuple : PySem.W.nsIn K mainGlobals "tuple" = some none)
    (z_zip : PySem.W.nsIn K mainGlobals "zip" = some none)
    (n_MOST_BOTTOM : PySem.W.nsIn K mainGlobals "MOST_BOTTOM" = some (some (.int 144 t_MOST_BOTTOM)))
    (n_MOST_CAP : PySem.W.nsIn K mainGlobals "MOST_CAP" = some (some (.int 6 t_MOST_CAP)))
    (n_MOST_KINDS : PySem.W.nsIn K mainGlobals "MOST_KINDS" = some (some (.int 5 t_MOST_KINDS)))
    (n_MOST_SORTS : PySem.W.nsIn K mainGlobals "MOST_SORTS" = some (some (.int 4 t_MOST_SORTS)))
    (n_MOST_THRESHOLDS : PySem.W.nsIn K mainGlobals "MOST_THRESHOLDS" = some (some (.int 6 t_MOST_THRESHOLDS)))
    (n_MOST_TOP : PySem.W.nsIn K mainGlobals "MOST_TOP" = some (some (.int 1000000 t_MOST_TOP)))
    (n_MOST_WIDTH : PySem.W.nsIn K mainGlobals "MOST_WIDTH" = some (some (.int 12 t_MOST_WIDTH)))
    (mt_NOTHING : PySem.W.nsIn K mainGlobals "NOTHING" = some (some (.ref tp_NOTHING)))
    (lt_NOTHING : K.lookup tp_NOTHING = some ⟨.type "tuple", to_NOTHING, .seq #[.int 0 tt0_NOTHING, .int 1 tt1_NOTHING] tn_NOTHING, ts_NOTHING⟩)
    (m_gcd : PySem.W.nsIn K mainGlobals "gcd" = some (some (.builtin "math.gcd")))
    (m_lcm : PySem.W.nsIn K mainGlobals "lcm" = some (some (.builtin "math.lcm")))
    (a_law : PySem.W.nsIn K mainGlobals "law" = some (some (.ref f_law)))
    (l_law : K.lookup f_law = some ⟨oc_law, od_law, .func (PySem.W.fnOf "law" "law" (defArgs s_law) (defBody s_law) (defScope s_law) .none kV_law dc_law pm_law an_law cd_law ct_law), sl_law⟩)
    (c_law : PySem.W.codeIn K cd_law "law" = true) : LamX.LawAtS l w K (L2.CX l.prog w) 9 63 "script" mg fa h := by
  have e := hfa.symm.trans (PySem.W.mg_of X G a_law)
  cases e
  have F_is_integer := fun_mk (st := s_is_integer) l_is_integer c_is_integer k_is_integer
  have F_is_between := fun_mk (st := s_is_between) l_is_between c_is_between k_is_between
  have F_is_tuple_of := fun_mk (st := s_is_tuple_of) l_is_tuple_of c_is_tuple_of k_is_tuple_of
  have F_is_fraction := fun_mk (st := s_is_fraction) l_is_fraction c_is_fraction k_is_fraction
  have F_at_most := fun_mk (st := s_at_most) l_at_most c_at_most k_at_most
  have F_is_threshold := fun_mk (st := s_is_threshold) l_is_threshold c_is_threshold k_is_threshold
  have F_is_list := fun_mk (st := s_is_list) l_is_list c_is_list k_is_list
  have F_ascends := fun_mk (st := s_ascends) l_ascends c_ascends k_ascends
  have F_is_width := fun_mk (st := s_is_width) l_is_width c_is_width k_is_width
  have F_is_sort := fun_mk (st := s_is_sort) l_is_sort c_is_sort k_is_sort
  have F_is_sort_tuple := fun_mk (st := s_is_sort_tuple) l_is_sort_tuple c_is_sort_tuple k_is_sort_tuple
  have F_is_join := fun_mk (st := s_is_join) l_is_join c_is_join k_is_join
  have F_is_kind := fun_mk (st := s_is_kind) l_is_kind c_is_kind k_is_kind
  have F_Book__init__ := fun_mk (st := s_Book__init__) l_Book__init__ c_Book__init__ k_Book__init__
  have F_Book__eq__ := fun_mk (st := s_Book__eq__) l_Book__eq__ c_Book__eq__ k_Book__eq__
  have F_fraction := fun_mk (st := s_fraction) l_fraction c_fraction k_fraction
  have F_plus := fun_mk (st := s_plus) l_plus c_plus k_plus
  have F_minus := fun_mk (st := s_minus) l_minus c_minus k_minus
  have F_times := fun_mk (st := s_times) l_times c_times k_times
  have F_grains_in_one := fun_mk (st := s_grains_in_one) l_grains_in_one c_grains_in_one k_grains_in_one
  have F_in_grains := fun_mk (st := s_in_grains) l_in_grains c_in_grains k_in_grains
  have F_rounded_up := fun_mk (st := s_rounded_up) l_rounded_up c_rounded_up k_rounded_up
  have F_is_sort_number := fun_mk (st := s_is_sort_number) l_is_sort_number c_is_sort_number k_is_sort_number
  have F_check_pair := fun_mk (st := s_check_pair) l_check_pair c_check_pair k_check_pair
  have F_part_of := fun_mk (st := s_part_of) l_part_of c_part_of k_part_of
  have F_room_of := fun_mk (st := s_room_of) l_room_of c_room_of k_room_of
  have F_room := fun_mk (st := s_room) l_room c_room k_room
  have F_grains_of := fun_mk (st := s_grains_of) l_grains_of c_grains_of k_grains_of
  have F_onsets := fun_mk (st := s_onsets) l_onsets c_onsets k_onsets
  have F_overshoots := fun_mk (st := s_overshoots) l_overshoots c_overshoots k_overshoots
  have F_least_breach := fun_mk (st := s_least_breach) l_least_breach c_least_breach k_least_breach
  have F_calm_kind := fun_mk (st := s_calm_kind) l_calm_kind c_calm_kind k_calm_kind
  have F_calm := fun_mk (st := s_calm) l_calm c_calm k_calm
  have F_calm_singly := fun_mk (st := s_calm_singly) l_calm_singly c_calm_singly k_calm_singly
  have F_breach := fun_mk (st := s_breach) l_breach c_breach k_breach
  have F_loss_of := fun_mk (st := s_loss_of) l_loss_of c_loss_of k_loss_of
  have F_loss := fun_mk (st := s_loss) l_loss c_loss k_loss
  have F__law_pool := fun_mk (st := s__law_pool) l__law_pool c__law_pool k__law_pool
  have F__law_draw := fun_mk (st := s__law_draw) l__law_draw c__law_draw k__law_draw
  have F__law_divisor := fun_mk (st := s__law_divisor) l__law_divisor c__law_divisor k__law_divisor
  have F__law_lowest := fun_mk (st := s__law_lowest) l__law_lowest c__law_lowest k__law_lowest
  have F__law_grains := fun_mk (st := s__law_grains) l__law_grains c__law_grains k__law_grains
  have F__law_room := fun_mk (st := s__law_room) l__law_room c__law_room k__law_room
  have F__law_ascending := fun_mk (st := s__law_ascending) l__law_ascending c__law_ascending k__law_ascending
  have F__law_flag := fun_mk (st := s__law_flag) l__law_flag c__law_flag k__law_flag
  have F__law_one_right := fun_mk (st := s__law_one_right) l__law_one_right c__law_one_right k__law_one_right
  have F__law_sea_right := fun_mk (st := s__law_sea_right) l__law_sea_right c__law_sea_right k__law_sea_right
  have F__law_two_right := fun_mk (st := s__law_two_right) l__law_two_right c__law_two_right k__law_two_right
  have F_BadBook__init__ := fun_mk (st := sx_BadBook) l_BadBook__init__ c_BadBook__init__ k_BadBook__init__
  have oxf_BadBook : L2.XfC K C_BadBook := ⟨xga_BadBook, xgg_BadBook, xs_BadBook, xhd_BadBook⟩
  have okw_Book : OkD K (.oth (.ref C_Book)) := by
    unfold OkD
    intro n hn
    have five : n = "int" ∨ n = "bool" ∨ n = "str" ∨ n = "tuple" ∨ n = "list" := by simpa [kinds] using hn
    rcases five with rfl | rfl | rfl | rfl | rfl
    · exact kit_bt (by decide +kernel) wint_Book
    · exact kit_bt (by decide +kernel) wbool_Book
    · exact kit_bt (by decide +kernel) wstr_Book
    · exact kit_bt (by decide +kernel) wtuple_Book
    · exact kit_bt (by decide +kernel) wlist_Book
  let T : Txt K mg := {
    f_is_integer := f_is_integer
    fd_is_integer := _
    F_is_integer := F_is_integer
    b_is_integer := F_is_integer.binds (ps := ["thing"]) fun _ _ _ _ _ _ us hl => match us, hl with | [_], _ => rfl
    g_is_integer := PySem.W.mg_of X G a_is_integer
    k_is_integer := k_is_integer
    f_is_between := f_is_between
    fd_is_between := _
    F_is_between := F_is_between
    b_is_between := F_is_between.binds (ps := ["low", "high", "thing"]) fun _ _ _ _ _ _ us hl => match us, hl with | [_, _, _], _ => rfl
    g_is_between := PySem.W.mg_of X G a_is_between
    k_is_between := k_is_between
    f_is_tuple_of := f_is_tuple_of
    fd_is_tuple_of := _
    F_is_tuple_of := F_is_tuple_of
    b_is_tuple_of := F_is_tuple_of.binds (ps := ["low", "high", "thing"]) fun _ _ _ _ _ _ us hl => match us, hl with | [_, _, _], _ => rfl
    g_is_tuple_of := PySem.W.mg_of X G a_is_tuple_of
    k_is_tuple_of := k_is_tuple_of
    f_is_fraction := f_is_fraction
    fd_is_fraction := _
    F_is_fraction := F_is_fraction
    b_is_fraction := F_is_fraction.binds (ps := ["thing"]) fun _ _ _ _ _ _ us hl => match us, hl with | [_], _ => rfl
    g_is_fraction := PySem.W.mg_of X G a_is_fraction
    k_is_fraction := k_is_fraction
    f_at_most := f_at_most
    fd_at_most := _
    F_at_most := F_at_most
    b_at_most := F_at_most.binds (ps := ["one", "other"]) fun _ _ _ _ _ _ us hl => match us, hl with | [_, _], _ => rfl
    g_at_most := PySem.W.mg_of X G a_at_most
    k_at_most := k_at_most
    f_is_threshold := f_is_threshold
    fd_is_threshold := _
    F_is_threshold := F_is_threshold
    b_is_threshold := F_is_threshold.binds (ps := ["thing"]) fun _ _ _ _ _ _ us hl => match us, hl with | [_], _ => rfl
    g_is_threshold := PySem.W.mg_of X G a_is_threshold
    k_is_threshold := k_is_threshold
    f_is_list := f_is_list
    fd_is_list := _
    F_is_list := F_is_list
    b_is_list := F_is_list.binds (ps := ["thing"]) fun _ _ _ _ _ _ us hl => match us, hl with | [_], _ => rfl
    g_is_list := PySem.W.mg_of X G a_is_list
    k_is_list := k_is_list
    f_ascends := f_ascends
    fd_ascends := _
    F_ascends := F_ascends
    b_ascends := F_ascends.binds (ps := ["things"]) fun _ _ _ _ _ _ us hl => match us, hl with | [_], _ => rfl
    g_ascends := PySem.W.mg_of X G a_ascends
    k_ascends := k_ascends
    f_is_width := f_is_width
    fd_is_width := _
    F_is_width := F_is_width
    b_is_width := F_is_width.binds (ps := ["thing"]) fun _ _ _ _ _ _ us hl => match us, hl with | [_], _ => rfl
    g_is_width := PySem.W.mg_of X G a_is_width
    k_is_width := k_is_width
    f_is_sort := f_is_sort
    fd_is_sort := _
    F_is_sort := F_is_sort
    b_is_sort := F_is_sort.binds (ps := ["thing"]) fun _ _ _ _ _ _ us hl => match us, hl with | [_], _ => rfl
    g_is_sort := PySem.W.mg_of X G a_is_sort
    k_is_sort := k_is_sort
    f_is_sort_tuple := f_is_sort_tuple
    fd_is_sort_tuple := _
    F_is_sort_tuple := F_is_sort_tuple
    b_is_sort_tuple := F_is_sort_tuple.binds (ps := ["thing"]) fun _ _ _ _ _ _ us hl => match us, hl with | [_], _ => rfl
    g_is_sort_tuple := PySem.W.mg_of X G a_is_sort_tuple
    k_is_sort_tuple := k_is_sort_tuple
    f_is_join := f_is_join
    fd_is_join := _
    F_is_join := F_is_join
    b_is_join := F_is_join.binds (ps := ["sorts", "thing"]) fun _ _ _ _ _ _ us hl => match us, hl with | [_, _], _ => rfl
    g_is_join := PySem.W.mg_of X G a_is_join
    k_is_join := k_is_join
    f_is_kind := f_is_kind
    fd_is_kind := _
    F_is_kind := F_is_kind
    b_is_kind := F_is_kind.binds (ps := ["sorts", "thing"]) fun _ _ _ _ _ _ us hl => match us, hl with | [_, _], _ => rfl
    g_is_kind := PySem.W.mg_of X G a_is_kind
    k_is_kind := k_is_kind
    f_Book__init__ := f_Book__init__
    fd_Book__init__ := _
    F_Book__init__ := F_Book__init__
    b_Book__init__ := F_Book__init__.binds (ps := ["self", "sorts", "kinds"]) fun _ _ _ _ _ _ us hl => match us, hl with | [_, _, _], _ => rfl
    f_Book__eq__ := f_Book__eq__
    fd_Book__eq__ := _
    F_Book__eq__ := F_Book__eq__
    b_Book__eq__ := F_Book__eq__.binds (ps := ["self", "other"]) fun _ _ _ _ _ _ us hl => match us, hl with | [_, _], _ => rfl
    f_fraction := f_fraction
    fd_fraction := _
    F_fraction := F_fraction
    b_fraction := F_fraction.binds (ps := ["top", "bottom"]) fun _ _ _ _ _ _ us hl => match us, hl with | [_, _], _ => rfl
    g_fraction := PySem.W.mg_of X G a_fraction
    k_fraction := k_fraction
    f_plus := f_plus
    fd_plus := _
    F_plus := F_plus
    b_plus := F_plus.binds (ps := ["one", "other"]) fun _ _ _ _ _ _ us hl => match us, hl with | [_, _], _ => rfl
    g_plus := PySem.W.mg_of X G a_plus
    k_plus := k_plus
    f_minus := f_minus
    fd_minus := _
    F_minus := F_minus
    b_minus := F_minus.binds (ps := ["one", "other"]) fun _ _ _ _ _ _ us hl => match us, hl with | [_, _], _ => rfl
    g_minus := PySem.W.mg_of X G a_minus
    k_minus := k_minus
    f_times := f_times
    fd_times := _
    F_times := F_times
    b_times := F_times.binds (ps := ["number", "part"]) fun _ _ _ _ _ _ us hl => match us, hl with | [_, _], _ => rfl
    g_times := PySem.W.mg_of X G a_times
    k_times := k_times
    f_grains_in_one := f_grains_in_one
    fd_grains_in_one := _
    F_grains_in_one := F_grains_in_one
    b_grains_in_one := F_grains_in_one.binds (ps := ["width", "other"]) fun _ _ _ _ _ _ us hl => match us, hl with | [_, _], _ => rfl
    g_grains_in_one := PySem.W.mg_of X G a_grains_in_one
    k_grains_in_one := k_grains_in_one
    f_in_grains := f_in_grains
    fd_in_grains := _
    F_in_grains := F_in_grains
    b_in_grains := F_in_grains.binds (ps := ["thresholds", "many"]) fun _ _ _ _ _ _ us hl => match us, hl with | [_, _], _ => rfl
    g_in_grains := PySem.W.mg_of X G a_in_grains
    k_in_grains := k_in_grains
    f_rounded_up := f_rounded_up
    fd_rounded_up := _
    F_rounded_up := F_rounded_up
    b_rounded_up := F_rounded_up.binds (ps := ["thresholds", "many"]) fun _ _ _ _ _ _ us hl => match us, hl with | [_, _], _ => rfl
    g_rounded_up := PySem.W.mg_of X G a_rounded_up
    k_rounded_up := k_rounded_up
    f_is_sort_number := f_is_sort_number
    fd_is_sort_number := _
    F_is_sort_number := F_is_sort_number
    b_is_sort_number := F_is_sort_number.binds (ps := ["book", "thing"]) fun _ _ _ _ _ _ us hl => match us, hl with | [_, _], _ => rfl
    g_is_sort_number := PySem.W.mg_of X G a_is_sort_number
    k_is_sort_number := k_is_sort_number
    f_check_pair := f_check_pair
    fd_check_pair := _
    F_check_pair := F_check_pair
    b_check_pair := F_check_pair.binds (ps := ["book", "i", "j"]) fun _ _ _ _ _ _ us hl => match us, hl with | [_, _, _], _ => rfl
    g_check_pair := PySem.W.mg_of X G a_check_pair
    k_check_pair := k_check_pair
    f_part_of := f_part_of
    fd_part_of := _
    F_part_of := F_part_of
    b_part_of := F_part_of.binds (ps := ["sort"]) fun _ _ _ _ _ _ us hl => match us, hl with | [_], _ => rfl
    g_part_of := PySem.W.mg_of X G a_part_of
    k_part_of := k_part_of
    f_room_of := f_room_of
    fd_room_of := _
    F_room_of := F_room_of
    b_room_of := F_room_of.binds (ps := ["sorts", "i", "j"]) fun _ _ _ _ _ _ us hl => match us, hl with | [_, _, _], _ => rfl
    g_room_of := PySem.W.mg_of X G a_room_of
    k_room_of := k_room_of
    f_room := f_room
    fd_room := _
    F_room := F_room
    b_room := F_room.binds (ps := ["book", "i", "j"]) fun _ _ _ _ _ _ us hl => match us, hl with | [_, _, _], _ => rfl
    g_room := PySem.W.mg_of X G a_room
    k_room := k_room
    f_grains_of := f_grains_of
    fd_grains_of := _
    F_grains_of := F_grains_of
    b_grains_of := F_grains_of.binds (ps := ["sorts", "i", "j"]) fun _ _ _ _ _ _ us hl => match us, hl with | [_, _, _], _ => rfl
    g_grains_of := PySem.W.mg_of X G a_grains_of
    k_grains_of := k_grains_of
    f_onsets := f_onsets
    fd_onsets := _
    F_onsets := F_onsets
    b_onsets := F_onsets.binds (ps := ["thresholds", "many"]) fun _ _ _ _ _ _ us hl => match us, hl with | [_, _], _ => rfl
    g_onsets := PySem.W.mg_of X G a_onsets
    k_onsets := k_onsets
    f_overshoots := f_overshoots
    fd_overshoots := _
    F_overshoots := F_overshoots
    b_overshoots := F_overshoots.binds (ps := ["space", "drop", "many"]) fun _ _ _ _ _ _ us hl => match us, hl with | [_, _, _], _ => rfl
    g_overshoots := PySem.W.mg_of X G a_overshoots
    k_overshoots := k_overshoots
    f_least_breach := f_least_breach
    fd_least_breach := _
    F_least_breach := F_least_breach
    b_least_breach := F_least_breach.binds (ps := ["sorts", "thresholds", "join"]) fun _ _ _ _ _ _ us hl => match us, hl with | [_, _, _], _ => rfl
    g_least_breach := PySem.W.mg_of X G a_least_breach
    k_least_breach := k_least_breach
    f_calm_kind := f_calm_kind
    fd_calm_kind := _
    F_calm_kind := F_calm_kind
    b_calm_kind := F_calm_kind.binds (ps := ["sorts", "kind"]) fun _ _ _ _ _ _ us hl => match us, hl with | [_, _], _ => rfl
    g_calm_kind := PySem.W.mg_of X G a_calm_kind
    k_calm_kind := k_calm_kind
    f_calm := f_calm
    fd_calm := _
    F_calm := F_calm
    b_calm := F_calm.binds (ps := ["book"]) fun _ _ _ _ _ _ us hl => match us, hl with | [_], _ => rfl
    g_calm := PySem.W.mg_of X G a_calm
    k_calm := k_calm
    f_calm_singly := f_calm_singly
    fd_calm_singly := _
    F_calm_singly := F_calm_singly
    b_calm_singly := F_calm_singly.binds (ps := ["book"]) fun _ _ _ _ _ _ us hl => match us, hl with | [_], _ => rfl
    g_calm_singly := PySem.W.mg_of X G a_calm_singly
    k_calm_singly := k_calm_singly
    f_breach := f_breach
    fd_breach := _
    F_breach := F_breach
    b_breach := F_breach.binds (ps := ["book"]) fun _ _ _ _ _ _ us hl => match us, hl with | [_], _ => rfl
    g_breach := PySem.W.mg_of X G a_breach
    k_breach := k_breach
    f_loss_of := f_loss_of
    fd_loss_of := _
    F_loss_of := F_loss_of
    b_loss_of := F_loss_of.binds (ps := ["book"]) fun _ _ _ _ _ _ us hl => match us, hl with | [_], _ => rfl
    g_loss_of := PySem.W.mg_of X G a_loss_of
    k_loss_of := k_loss_of
    f_loss := f_loss
    fd_loss := _
    F_loss := F_loss
    b_loss := F_loss.binds (ps := ["book"]) fun _ _ _ _ _ _ us hl => match us, hl with | [_], _ => rfl
    g_loss := PySem.W.mg_of X G a_loss
    k_loss := k_loss
    f__law_pool := f__law_pool
    fd__law_pool := _
    F__law_pool := F__law_pool
    b__law_pool := F__law_pool.binds (ps := ["script"]) fun _ _ _ _ _ _ us hl => match us, hl with | [_], _ => rfl
    g__law_pool := PySem.W.mg_of X G a__law_pool
    k__law_pool := k__law_pool
    f__law_draw := f__law_draw
    fd__law_draw := _
    F__law_draw := F__law_draw
    b__law_draw := F__law_draw.binds (ps := ["pool", "many"]) fun _ _ _ _ _ _ us hl => match us, hl with | [_, _], _ => rfl
    g__law_draw := PySem.W.mg_of X G a__law_draw
    k__law_draw := k__law_draw
    f__law_divisor := f__law_divisor
    fd__law_divisor := _
    F__law_divisor := F__law_divisor
    b__law_divisor := F__law_divisor.binds (ps := ["one", "other"]) fun _ _ _ _ _ _ us hl => match us, hl with | [_, _], _ => rfl
    g__law_divisor := PySem.W.mg_of X G a__law_divisor
    k__law_divisor := k__law_divisor
    f__law_lowest := f__law_lowest
    fd__law_lowest := _
    F__law_lowest := F__law_lowest
    b__law_lowest := F__law_lowest.binds (ps := ["top", "bottom"]) fun _ _ _ _ _ _ us hl => match us, hl with | [_, _], _ => rfl
    g__law_lowest := PySem.W.mg_of X G a__law_lowest
    k__law_lowest := k__law_lowest
    f__law_grains := f__law_grains
    fd__law_grains := _
    F__law_grains := F__law_grains
    b__law_grains := F__law_grains.binds (ps := ["width", "other"]) fun _ _ _ _ _ _ us hl => match us, hl with | [_, _], _ => rfl
    g__law_grains := PySem.W.mg_of X G a__law_grains
    k__law_grains := k__law_grains
    f__law_room := f__law_room
    fd__law_room := _
    F__law_room := F__law_room
    b__law_room := F__law_room.binds (ps := ["sorts", "pair", "grains"]) fun _ _ _ _ _ _ us hl => match us, hl with | [_, _, _], _ => rfl
    g__law_room := PySem.W.mg_of X G a__law_room
    k__law_room := k__law_room
    f__law_ascending := f__law_ascending
    fd__law_ascending := _
    F__law_ascending := F__law_ascending
    b__law_ascending := F__law_ascending.binds (ps := ["steps"]) fun _ _ _ _ _ _ us hl => match us, hl with | [_], _ => rfl
    g__law_ascending := PySem.W.mg_of X G a__law_ascending
    k__law_ascending := k__law_ascending
    f__law_flag := f__law_flag
    fd__law_flag := _
    F__law_flag := F__law_flag
    b__law_flag := F__law_flag.binds (ps := ["told", "due"]) fun _ _ _ _ _ _ us hl => match us, hl with | [_, _], _ => rfl
    g__law_flag := PySem.W.mg_of X G a__law_flag
    k__law_flag := k__law_flag
    f__law_one_right := f__law_one_right
    fd__law_one_right := _
    F__law_one_right := F__law_one_right
    b__law_one_right := F__law_one_right.binds (ps := ["pool"]) fun _ _ _ _ _ _ us hl => match us, hl with | [_], _ => rfl
    g__law_one_right := PySem.W.mg_of X G a__law_one_right
    k__law_one_right := k__law_one_right
    f__law_sea_right := f__law_sea_right
    fd__law_sea_right := _
    F__law_sea_right := F__law_sea_right
    b__law_sea_right := F__law_sea_right.binds (ps := ["pool"]) fun _ _ _ _ _ _ us hl => match us, hl with | [_], _ => rfl
    g__law_sea_right := PySem.W.mg_of X G a__law_sea_right
    k__law_sea_right := k__law_sea_right
    f__law_two_right := f__law_two_right
    fd__law_two_right := _
    F__law_two_right := F__law_two_right
    b__law_two_right := F__law_two_right.binds (ps := ["pool"]) fun _ _ _ _ _ _ us hl => match us, hl with | [_], _ => rfl
    g__law_two_right := PySem.W.mg_of X G a__law_two_right
    k__law_two_right := k__law_two_right
    Z := ⟨C_NoSort, C_NotCalm, C_Book, C_TidesError, C_BadBook⟩
    fi_NoSort := fi_NoSort
    x_NoSort := { gC := PySem.W.mg_of X G aC_NoSort, cls := ⟨_, _, _, _, _, _, _, _, _, _, _, _, _, _, _, xL_NoSort, xr_NoSort⟩, iC := xi_NoSort, tC := xt_NoSort, kC := xk_NoSort, exC := xs_NoSort, tyC := xy_NoSort, fn := ⟨_, _, _, _, _, _, _, _, _, _, xf_NoSort, xc_NoSort⟩ }
    fi_NotCalm := fi_NotCalm
    x_NotCalm := { gC := PySem.W.mg_of X G aC_NotCalm, cls := ⟨_, _, _, _, _, _, _, _, _, _, _, _, _, _, _, xL_NotCalm, xr_NotCalm⟩, iC := xi_NotCalm, tC := xt_NotCalm, kC := xk_NotCalm, exC := xs_NotCalm, tyC := xy_NotCalm, fn := ⟨_, _, _, _, _, _, _, _, _, _, xf_NotCalm, xc_NotCalm⟩ }
    fi_BadBook := f_BadBook__init__
    fdx_BadBook := _
    Fx_BadBook := F_BadBook__init__
    bx_BadBook := F_BadBook__init__.binds (ps := ["self", "part"]) fun _ _ _ _ _ _ us hl => match us, hl with | [_, _], _ => rfl
    gx_BadBook := PySem.W.mg_of X G aC_BadBook
    ox_BadBook := ⟨⟨_, _, _, _, _, _, _, _, _, _, _, _, _, _, _, xL_BadBook, xr_BadBook⟩, xsa_BadBook, xs_BadBook, xy_BadBook, xk_BadBook⟩
    xi_BadBook := xi_BadBook
    xt_BadBook := xt_BadBook
    no_BadBook := no_BadBook
    xf_BadBook := oxf_BadBook
    cm_Book := ⟨wm_Book, a_Book__init__, wf_Book, wk_Book⟩
    gc_Book := PySem.W.mg_of X G aC_Book
    it_Book := ⟨⟨wp_Book, wd_Book, wo_Book, ws_Book⟩, wc_Book, wg_Book, wt_Book, wr_Book⟩
    ok_Book := okw_Book
    gc_TidesError := PySem.W.mg_of X G aC_TidesError
    na_Book_kinds := na_Book_kinds
    na_Book_sorts := na_Book_sorts
    z_abs := PySem.W.mg_none_of X G z_abs
    z_all := PySem.W.mg_none_of X G z_all
    z_bool := PySem.W.mg_none_of X G z_bool
    z_enumerate := PySem.W.mg_none_of X G z_enumerate
    z_int := PySem.W.mg_none_of X G z_int
    z_isinstance := PySem.W.mg_none_of X G z_isinstance
    z_len := PySem.W.mg_none_of X G z_len
    z_list := PySem.W.mg_none_of X G z_list
    z_max := PySem.W.mg_none_of X G z_max
    z_range := PySem.W.mg_none_of X G z_range
    z_tuple := PySem.W.mg_none_of X G z_tuple
    z_zip := PySem.W.mg_none_of X G z_zip
    t_MOST_BOTTOM := t_MOST_BOTTOM
    c_MOST_BOTTOM := PySem.W.mg_of X G n_MOST_BOTTOM
    t_MOST_CAP := t_MOST_CAP
    c_MOST_CAP := PySem.W.mg_of X G n_MOST_CAP
    t_MOST_KINDS := t_MOST_KINDS
    c_MOST_KINDS := PySem.W.mg_of X G n_MOST_KINDS
    t_MOST_SORTS := t_MOST_SORTS
    c_MOST_SORTS := PySem.W.mg_of X G n_MOST_SORTS
    t_MOST_THRESHOLDS := t_MOST_THRESHOLDS
    c_MOST_THRESHOLDS := PySem.W.mg_of X G n_MOST_THRESHOLDS
    t_MOST_TOP := t_MOST_TOP
    c_MOST_TOP := PySem.W.mg_of X G n_MOST_TOP
    t_MOST_WIDTH := t_MOST_WIDTH
    c_MOST_WIDTH := PySem.W.mg_of X G n_MOST_WIDTH
    tp_NOTHING := tp_NOTHING
    mt_NOTHING := PySem.W.mg_of X G mt_NOTHING
    rt_NOTHING := fun F => .tup (xs := [.int 0, .int 1]) (.inr ⟨_, _, _, lt_NOTHING, rfl, rfl, (show (2 : Nat) ≤ sizeLine by decide), (.cons ⟨_, rfl⟩ (.cons ⟨_, rfl⟩ .nil))⟩) (.cons (.int _) (.cons (.int _) (.nil)))
    m_gcd := PySem.W.mg_of X G m_gcd
    m_lcm := PySem.W.mg_of X G m_lcm }
  have LF : LawF K T.Z := ⟨trivial⟩
  exact law_at T LF l_law c_law
end
end K38
open PySem PySem.W PyProof.Rows
set_option maxRecDepth 100000 in
set_option maxHeartbeats 0 in
theorem PySem.Challenge.cw_twotides_k38_whole_known_books_holds : PySem.Challenge.rw_twotides_k38_whole_known_books.Holds := by
  w_on; o_law; k_head; (case hw => w_witness2)
  k_fill
  refine LamX.walk_ofTs (l := PySem.Challenge.rw_twotides_k38_whole_known_books) (n := 63) (k := 9) (x := "script") (CX := fun w => L2.CX PySem.Challenge.rw_twotides_k38_whole_known_books.prog w) rfl (by decide) rfl ⟨rfl, by decide, by decide⟩ (fun w h Y => Y) ?F K38.cx_none
  case F =>
    intro w mg fa h Y KX G hmg
    refine' K38.all_mk (K := _) KX G hmg ?aC_NoSort ?aC_NotCalm ?aC_Book ?aC_TidesError ?aC_BadBook ?a_is_integer ?l_is_integer ?c_is_integer ?k_is_integer ?a_is_between ?l_is_between ?c_is_between ?k_is_between ?a_is_tuple_of ?l_is_tuple_of ?c_is_tuple_of ?k_is_tuple_of ?a_is_fraction ?l_is_fraction ?c_is_fraction ?k_is_fraction ?a_at_most ?l_at_most ?c_at_most ?k_at_most ?a_is_threshold ?l_is_threshold ?c_is_threshold ?k_is_threshold ?a_is_list ?l_is_list ?c_is_list ?k_is_list ?a_ascends ?l_ascends ?c_ascends ?k_ascends ?a_is_width ?l_is_width ?c_is_width ?k_is_width ?a_is_sort ?l_is_sort ?c_is_sort ?k_is_sort ?a_is_sort_tuple ?l_is_sort_tuple ?c_is_sort_tuple ?k_is_sort_tuple ?a_is_join ?l_is_join ?c_is_join ?k_is_join ?a_is_kind ?l_is_kind ?c_is_kind ?k_is_kind ?a_Book__init__ ?l_Book__init__ ?c_Book__init__ ?k_Book__init__ ?a_Book__eq__ ?l_Book__eq__ ?c_Book__eq__ ?k_Book__eq__ ?a_fraction ?l_fraction ?c_fraction ?k_fraction ?a_plus ?l_plus ?c_plus ?k_plus ?a_minus ?l_minus ?c_minus ?k_minus ?a_times ?l_times ?c_times ?k_times ?a_grains_in_one ?l_grains_in_one ?c_grains_in_one ?k_grains_in_one ?a_in_grains ?l_in_grains ?c_in_grains ?k_in_grains ?a_rounded_up ?l_rounded_up ?c_rounded_up ?k_rounded_up ?a_is_sort_number ?l_is_sort_number ?c_is_sort_number ?k_is_sort_number ?a_check_pair ?l_check_pair ?c_check_pair ?k_check_pair ?a_part_of ?l_part_of ?c_part_of ?k_part_of ?a_room_of ?l_room_of ?c_room_of ?k_room_of ?a_room ?l_room ?c_room ?k_room ?a_grains_of ?l_grains_of ?c_grains_of ?k_grains_of ?a_onsets ?l_onsets ?c_onsets ?k_onsets ?a_overshoots ?l_overshoots ?c_overshoots ?k_overshoots ?a_least_breach ?l_least_breach ?c_least_breach ?k_least_breach ?a_calm_kind ?l_calm_kind ?c_calm_kind ?k_calm_kind ?a_calm ?l_calm ?c_calm ?k_calm ?a_calm_singly ?l_calm_singly ?c_calm_singly ?k_calm_singly ?a_breach ?l_breach ?c_breach ?k_breach ?a_loss_of ?l_loss_of ?c_loss_of ?k_loss_of ?a_loss ?l_loss ?c_loss ?k_loss ?a__law_pool ?l__law_pool ?c__law_pool ?k__law_pool ?a__law_draw ?l__law_draw ?c__law_draw ?k__law_draw ?a__law_divisor ?l__law_divisor ?c__law_divisor ?k__law_divisor ?a__law_lowest ?l__law_lowest ?c__law_lowest ?k__law_lowest ?a__law_grains ?l__law_grains ?c__law_grains ?k__law_grains ?a__law_room ?l__law_room ?c__law_room ?k__law_room ?a__law_ascending ?l__law_ascending ?c__law_ascending ?k__law_ascending ?a__law_flag ?l__law_flag ?c__law_flag ?k__law_flag ?a__law_one_right ?l__law_one_right ?c__law_one_right ?k__law_one_right ?a__law_sea_right ?l__law_sea_right ?c__law_sea_right ?k__law_sea_right ?a__law_two_right ?l__law_two_right ?c__law_two_right ?k__law_two_right ?xL_NoSort ?xr_NoSort ?xi_NoSort ?xt_NoSort ?xk_NoSort ?xs_NoSort ?xy_NoSort ?xf_NoSort ?xc_NoSort ?xL_NotCalm ?xr_NotCalm ?xi_NotCalm ?xt_NotCalm ?xk_NotCalm ?xs_NotCalm ?xy_NotCalm ?xf_NotCalm ?xc_NotCalm ?xL_BadBook ?xr_BadBook ?xi_BadBook ?l_BadBook__init__ ?c_BadBook__init__ ?k_BadBook__init__ ?xt_BadBook ?xk_BadBook ?xs_BadBook ?xy_BadBook ?xsa_BadBook ?xga_BadBook ?xgg_BadBook ?xhd_BadBook ?no_BadBook ?wm_Book ?wf_Book ?wk_Book ?wp_Book ?wd_Book ?wo_Book ?ws_Book ?wc_Book ?wg_Book ?wt_Book ?wr_Book ?wint_Book ?wbool_Book ?wstr_Book ?wtuple_Book ?wlist_Book ?na_Book_kinds ?na_Book_sorts ?z_abs ?z_all ?z_bool ?z_enumerate ?z_int ?z_isinstance ?z_len ?z_list ?z_max ?z_range ?z_tuple ?z_zip ?n_MOST_BOTTOM ?n_MOST_CAP ?n_MOST_KINDS ?n_MOST_SORTS ?n_MOST_THRESHOLDS ?n_MOST_TOP ?n_MOST_WIDTH ?mt_NOTHING ?lt_NOTHING ?m_gcd ?m_lcm ?a_law ?l_law ?c_law
    (case aC_NoSort => k_is)
    (case aC_NotCalm => k_is)
    (case aC_Book => k_is)
    (case aC_TidesError => k_is)
    (case aC_BadBook => k_is)
    (case a_is_integer => k_is)
    (case l_is_integer => k_is)
    (case c_is_integer => k_is)
    (case k_is_integer => k_is)
    (case a_is_between => k_is)
    (case l_is_between => k_is)
    (case c_is_between => k_is)
    (case k_is_between => k_is)
    (case a_is_tuple_of => k_is)
    (case l_is_tuple_of => k_is)
    (case c_is_tuple_of => k_is)
    (case k_is_tuple_of => k_is)
    (case a_is_fraction => k_is)
    (case l_is_fraction => k_is)
    (case c_is_fraction => k_is)
    (case k_is_fraction => k_is)
    (case a_at_most => k_is)
    (case l_at_most => k_is)
    (case c_at_most => k_is)
    (case k_at_most => k_is)
    (case a_is_threshold => k_is)
    (case l_is_threshold => k_is)
    (case c_is_threshold => k_is)
    (case k_is_threshold => k_is)
    (case a_is_list => k_is)
    (case l_is_list => k_is)
    (case c_is_list => k_is)
    (case k_is_list => k_is)
    (case a_ascends => k_is)
    (case l_ascends => k_is)
    (case c_ascends => k_is)
    (case k_ascends => k_is)
    (case a_is_width => k_is)
    (case l_is_width => k_is)
    (case c_is_width => k_is)
    (case k_is_width => k_is)
    (case a_is_sort => k_is)
    (case l_is_sort => k_is)
    (case c_is_sort => k_is)
    (case k_is_sort => k_is)
    (case a_is_sort_tuple => k_is)
    (case l_is_sort_tuple => k_is)
    (case c_is_sort_tuple => k_is)
    (case k_is_sort_tuple => k_is)
    (case a_is_join => k_is)
    (case l_is_join => k_is)
    (case c_is_join => k_is)
    (case k_is_join => k_is)
    (case a_is_kind => k_is)
    (case l_is_kind => k_is)
    (case c_is_kind => k_is)
    (case k_is_kind => k_is)
    (case a_Book__init__ => k_is)
    (case l_Book__init__ => k_is)
    (case c_Book__init__ => k_is)
    (case k_Book__init__ => k_is)
    (case a_Book__eq__ => k_is)
    (case l_Book__eq__ => k_is)
    (case c_Book__eq__ => k_is)
    (case k_Book__eq__ => k_is)
    (case a_fraction => k_is)
    (case l_fraction => k_is)
    (case c_fraction => k_is)
    (case k_fraction => k_is)
    (case a_plus => k_is)
    (case l_plus => k_is)
    (case c_plus => k_is)
    (case k_plus => k_is)
    (case a_minus => k_is)
    (case l_minus => k_is)
    (case c_minus => k_is)
    (case k_minus => k_is)
    (case a_times => k_is)
    (case l_times => k_is)
    (case c_times => k_is)
    (case k_times => k_is)
    (case a_grains_in_one => k_is)
    (case l_grains_in_one => k_is)
    (case c_grains_in_one => k_is)
    (case k_grains_in_one => k_is)
    (case a_in_grains => k_is)
    (case l_in_grains => k_is)
    (case c_in_grains => k_is)
    (case k_in_grains => k_is)
    (case a_rounded_up => k_is)
    (case l_rounded_up => k_is)
    (case c_rounded_up => k_is)
    (case k_rounded_up => k_is)
    (case a_is_sort_number => k_is)
    (case l_is_sort_number => k_is)
    (case c_is_sort_number => k_is)
    (case k_is_sort_number => k_is)
    (case a_check_pair => k_is)
    (case l_check_pair => k_is)
    (case c_check_pair => k_is)
    (case k_check_pair => k_is)
    (case a_part_of => k_is)
    (case l_part_of => k_is)
    (case c_part_of => k_is)
    (case k_part_of => k_is)
    (case a_room_of => k_is)
    (case l_room_of => k_is)
    (case c_room_of => k_is)
    (case k_room_of => k_is)
    (case a_room => k_is)
    (case l_room => k_is)
    (case c_room => k_is)
    (case k_room => k_is)
    (case a_grains_of => k_is)
    (case l_grains_of => k_is)
    (case c_grains_of => k_is)
    (case k_grains_of => k_is)
    (case a_onsets => k_is)
    (case l_onsets => k_is)
    (case c_onsets => k_is)
    (case k_onsets => k_is)
    (case a_overshoots => k_is)
    (case l_overshoots => k_is)
    (case c_overshoots => k_is)
    (case k_overshoots => k_is)
    (case a_least_breach => k_is)
    (case l_least_breach => k_is)
    (case c_least_breach => k_is)
    (case k_least_breach => k_is)
    (case a_calm_kind => k_is)
    (case l_calm_kind => k_is)
    (case c_calm_kind => k_is)
    (case k_calm_kind => k_is)
    (case a_calm => k_is)
    (case l_calm => k_is)
    (case c_calm => k_is)
    (case k_calm => k_is)
    (case a_calm_singly => k_is)
    (case l_calm_singly => k_is)
    (case c_calm_singly => k_is)
    (case k_calm_singly => k_is)
    (case a_breach => k_is)
    (case l_breach => k_is)
    (case c_breach => k_is)
    (case k_breach => k_is)
    (case a_loss_of => k_is)
    (case l_loss_of => k_is)
    (case c_loss_of => k_is)
    (case k_loss_of => k_is)
    (case a_loss => k_is)
    (case l_loss => k_is)
    (case c_loss => k_is)
    (case k_loss => k_is)
    (case a__law_pool => k_is)
    (case l__law_pool => k_is)
    (case c__law_pool => k_is)
    (case k__law_pool => k_is)
    (case a__law_draw => k_is)
    (case l__law_draw => k_is)
    (case c__law_draw => k_is)
    (case k__law_draw => k_is)
    (case a__law_divisor => k_is)
    (case l__law_divisor => k_is)
    (case c__law_divisor => k_is)
    (case k__law_divisor => k_is)
    (case a__law_lowest => k_is)
    (case l__law_lowest => k_is)
    (case c__law_lowest => k_is)
    (case k__law_lowest => k_is)
    (case a__law_grains => k_is)
    (case l__law_grains => k_is)
    (case c__law_grains => k_is)
    (case k__law_grains => k_is)
    (case a__law_room => k_is)
    (case l__law_room => k_is)
    (case c__law_room => k_is)
    (case k__law_room => k_is)
    (case a__law_ascending => k_is)
    (case l__law_ascending => k_is)
    (case c__law_ascending => k_is)
    (case k__law_ascending => k_is)
    (case a__law_flag => k_is)
    (case l__law_flag => k_is)
    (case c__law_flag => k_is)
    (case k__law_flag => k_is)
    (case a__law_one_right => k_is)
    (case l__law_one_right => k_is)
    (case c__law_one_right => k_is)
    (case k__law_one_right => k_is)
    (case a__law_sea_right => k_is)
    (case l__law_sea_right => k_is)
    (case c__law_sea_right => k_is)
    (case k__law_sea_right => k_is)
    (case a__law_two_right => k_is)
    (case l__law_two_right => k_is)
    (case c__law_two_right => k_is)
    (case k__law_two_right => k_is)
    (case xL_NoSort => k_is)
    (case xr_NoSort => decide +kernel)
    (case xi_NoSort => k_is)
    (case xt_NoSort => k_is)
    (case xk_NoSort => k_is)
    (case xs_NoSort => k_is)
    (case xy_NoSort => k_is)
    (case xf_NoSort => k_is)
    (case xc_NoSort => k_is)
    (case xL_NotCalm => k_is)
    (case xr_NotCalm => decide +kernel)
    (case xi_NotCalm => k_is)
    (case xt_NotCalm => k_is)
    (case xk_NotCalm => k_is)
    (case xs_NotCalm => k_is)
    (case xy_NotCalm => k_is)
    (case xf_NotCalm => k_is)
    (case xc_NotCalm => k_is)
    (case xL_BadBook => k_is)
    (case xr_BadBook => decide +kernel)
    (case xi_BadBook => k_is)
    (case l_BadBook__init__ => k_is)
    (case c_BadBook__init__ => k_is)
    (case k_BadBook__init__ => k_is)
    (case xt_BadBook => k_is)
    (case xk_BadBook => k_is)
    (case xs_BadBook => k_is)
    (case xy_BadBook => k_is)
    (case xsa_BadBook => k_is)
    (case xga_BadBook => k_is)
    (case xgg_BadBook => k_is)
    (case xhd_BadBook => k_is)
    (case no_BadBook => k_is)
    (case wm_Book => k_is)
    (case wf_Book => k_is)
    (case wk_Book => k_is)
    (case wp_Book => k_is)
    (case wd_Book => k_is)
    (case wo_Book => k_is)
    (case ws_Book => k_is)
    (case wc_Book => k_is)
    (case wg_Book => k_is)
    (case wt_Book => k_is)
    (case wr_Book => k_is)
    (case wint_Book => k_is)
    (case wbool_Book => k_is)
    (case wstr_Book => k_is)
    (case wtuple_Book => k_is)
    (case wlist_Book => k_is)
    (case na_Book_kinds => k_is)
    (case na_Book_sorts => k_is)
    (case z_abs => k_is)
    (case z_all => k_is)
    (case z_bool => k_is)
    (case z_enumerate => k_is)
    (case z_int => k_is)
    (case z_isinstance => k_is)
    (case z_len => k_is)
    (case z_list => k_is)
    (case z_max => k_is)
    (case z_range => k_is)
    (case z_tuple => k_is)
    (case z_zip => k_is)
    (case n_MOST_BOTTOM => k_is)
    (case n_MOST_CAP => k_is)
    (case n_MOST_KINDS => k_is)
    (case n_MOST_SORTS => k_is)
    (case n_MOST_THRESHOLDS => k_is)
    (case n_MOST_TOP => k_is)
    (case n_MOST_WIDTH => k_is)
    (case mt_NOTHING => k_is)
    (case lt_NOTHING => k_is)
    (case m_gcd => k_is)
    (case m_lcm => k_is)
    (case a_law => k_is)
    (case l_law => k_is)
    (case c_law => k_is)
