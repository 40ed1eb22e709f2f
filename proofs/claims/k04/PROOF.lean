import PyProof.Rows.All
import Wide.All
import OpenK.AllK
import Wide.FinOn
import HandS.ForMost
import HandS.ForExc
import HandS.IsInst
import HandS.Zip
import HandS.Gcd
import HandS.Wide
import KE.SortData
import HandS.ExcIs
import HandS.Lambda
import HandS.EndTab
import HandS.Flt
import HandS.ExcField
import HandS.ExcInit
import KE.KExcIs
import HandS.TupAny
import HandS.TupLe
import HandS.Iter
import HandS.Deep
import HandS.OwnEq
import HandS.SlotsOwn
import KE.GoesZip
import KE.GoesMore
import HandS.Conv
import KE.DataFind
import PySem.Challenge.RW_twotides_k04_whole_equal_webs_and_books
set_option Elab.async false
set_option linter.all false
set_option maxRecDepth 100000
set_option maxHeartbeats 4000000
namespace L3
open PySem PySem.Spec PyProof.Rows L2

/-! ## data -/
inductive D where
  | non | bl (b : Bool) | int (i : Int) | str (x : Str) | tup (ds : List D) | lst (ds : List D) | fl (ds : List D) | ty (n : String) | oth (t : Value) | ins (C : Addr) (fs : List (Str × D)) | adr (q : Addr)

mutual
inductive Rep (K : PySem.W.Frag) (F : Hp) : V → D → Prop
  | non : Rep K F .non .non
  | bl (b : Bool) : Rep K F (.bl b) (.bl b)
  | int (i : Int) : Rep K F (.int i) (.int i)
  | str (x : Str) : Rep K F (.str x) (.str x)
  | tup {a : Addr} {xs : List V} {ds : List D} : SqT K F a xs → Reps K F xs ds → Rep K F (.ref a) (.tup ds)
  | lst {a : Addr} {xs : List V} {ds : List D} : F a = some (.lst xs) → Reps K F xs ds → Rep K F (.ref a) (.lst ds)
  | fl {a : Addr} {xs : List V} {ds : List D} : SqL K F a xs → Reps K F xs ds → Rep K F (.ref a) (.fl ds)
  | ty (n : String) : Rep K F (.ty n) (.ty n)
  | oth {a : Addr} {t : Value} : TyX K F (.ref a) t → Rep K F (.ref a) (.oth t)
  | ins {a C dx : Addr} {fs : List (Str × V)} {ds : List (Str × D)} : F a = some (.ins C dx fs) → FRep K F fs ds → Rep K F (.ref a) (.ins C ds)
  | adr (q : Addr) : Rep K F (.ref q) (.adr q)
inductive Reps (K : PySem.W.Frag) (F : Hp) : List V → List D → Prop
  | nil : Reps K F [] []
  | cons {v : V} {vs : List V} {d : D} {ds : List D} : Rep K F v d → Reps K F vs ds → Reps K F (v :: vs) (d :: ds)
inductive FRep (K : PySem.W.Frag) (F : Hp) : List (Str × V) → List (Str × D) → Prop
  | nil : FRep K F [] []
  | cons {f : Str} {v : V} {d : D} {vs : List (Str × V)} {ds : List (Str × D)} : Rep K F v d → FRep K F vs ds → FRep K F ((f, v) :: vs) ((f, d) :: ds)
end

theorem SqT_mono {K : PySem.W.Frag} {F F' : Hp} {a : Addr} {xs : List V} (s : Same F F') (h : SqT K F a xs) : SqT K F' a xs := by
  rcases h with (h | ⟨o, h⟩) | h
  · exact .inl (.inl (s _ _ h))
  · exact .inl (.inr ⟨o, s _ _ h⟩)
  · exact .inr h
theorem TyX_mono {K : PySem.W.Frag} {F F' : Hp} {v : V} {t : Value} (s : Same F F') (h : TyX K F v t) : TyX K F' v t := by
  cases h with
  | base h =>
    refine .base ?_
    cases h with
    | non => exact .non
    | bl x => exact .bl x
    | int x => exact .int x
    | str x => exact .str x
    | flt x => exact .flt x
    | lst e => exact .lst (s _ _ e)
    | frz e => exact .frz (s _ _ e)
    | tup e => exact .tup (s _ _ e)
    | dK e => exact .dK (s _ _ e)
    | dT e => exact .dT (s _ _ e)
    | ins e cl ha hn ht hm => exact .ins (s _ _ e) cl ha hn ht hm
  | byt b => exact .byt b
  | set e => exact .set (s _ _ e)
  | kList e c => exact .kList e c
  | kTuple e c => exact .kTuple e c
  | kDict e c => exact .kDict e c
  | fTuple e => exact .fTuple (s _ _ e)
  | fDict e => exact .fDict (s _ _ e)
mutual
theorem Rep.mono {K : PySem.W.Frag} {F F' : Hp} (s : Same F F') : ∀ {v : V} {d : D}, Rep K F v d → Rep K F' v d
  | _, _, .non => .non
  | _, _, .bl b => .bl b
  | _, _, .int i => .int i
  | _, _, .str x => .str x
  | _, _, .tup h r => .tup (SqT_mono s h) (Reps.mono s r)
  | _, _, .lst h r => .lst (s _ _ h) (Reps.mono s r)
  | _, _, .fl h r => .fl (s.seq h) (Reps.mono s r)
  | _, _, .ty n => .ty n
  | _, _, .oth h => .oth (TyX_mono s h)
  | _, _, .ins h r => .ins (s _ _ h) (FRep.mono s r)
  | _, _, .adr q => .adr q
theorem Reps.mono {K : PySem.W.Frag} {F F' : Hp} (s : Same F F') : ∀ {vs : List V} {ds : List D}, Reps K F vs ds → Reps K F' vs ds
  | _, _, .nil => .nil
  | _, _, .cons h r => .cons (Rep.mono s h) (Reps.mono s r)
theorem FRep.mono {K : PySem.W.Frag} {F F' : Hp} (s : Same F F') : ∀ {vs : List (Str × V)} {ds : List (Str × D)}, FRep K F vs ds → FRep K F' vs ds
  | _, _, .nil => .nil
  | _, _, .cons h r => .cons (Rep.mono s h) (FRep.mono s r)
end
theorem Reps.length {K : PySem.W.Frag} {F : Hp} : ∀ {vs : List V} {ds : List D}, Reps K F vs ds → vs.length = ds.length
  | _, _, .nil => rfl
  | _, _, .cons _ r => by rw [List.length_cons, List.length_cons, Reps.length r]
theorem Reps.get {K : PySem.W.Frag} {F : Hp} : ∀ {vs : List V} {ds : List D} {i : Nat} {v : V}, Reps K F vs ds → vs[i]? = some v → ∃ d, ds[i]? = some d ∧ Rep K F v d
  | _, _, _, _, .nil, e => by simp at e
  | _, _, 0, _, .cons r _, e => by simp at e; subst e; exact ⟨_, rfl, r⟩
  | _, _, i + 1, x, .cons _ t, e => by
    obtain ⟨u, h1, h2⟩ := Reps.get (i := i) (v := x) t (by simpa using e)
    exact ⟨u, by simpa using h1, h2⟩
theorem Reps.getD {K : PySem.W.Frag} {F : Hp} : ∀ {vs : List V} {ds : List D} {i : Nat} {d : D}, Reps K F vs ds → ds[i]? = some d → ∃ v, vs[i]? = some v ∧ Rep K F v d
  | _, _, _, _, .nil, e => by simp at e
  | _, _, 0, _, .cons r _, e => by simp at e; subst e; exact ⟨_, rfl, r⟩
  | _, _, i + 1, x, .cons _ t, e => by
    obtain ⟨u, h1, h2⟩ := Reps.getD (i := i) (d := x) t (by simpa using e)
    exact ⟨u, by simpa using h1, h2⟩
theorem Reps.append {K : PySem.W.Frag} {F : Hp} : ∀ {vs ws : List V} {ds es : List D}, Reps K F vs ds → Reps K F ws es → Reps K F (vs ++ ws) (ds ++ es)
  | _, _, _, _, .nil, r => r
  | _, _, _, _, .cons h t, r => .cons h (Reps.append t r)
theorem Reps.take {K : PySem.W.Frag} {F : Hp} : ∀ {vs : List V} {ds : List D} (n : Nat), Reps K F vs ds → Reps K F (vs.take n) (ds.take n)
  | _, _, 0, _ => .nil
  | _, _, _ + 1, .nil => .nil
  | _, _, n + 1, .cons h t => .cons h (Reps.take n t)
theorem Reps.drop {K : PySem.W.Frag} {F : Hp} : ∀ {vs : List V} {ds : List D} (n : Nat), Reps K F vs ds → Reps K F (vs.drop n) (ds.drop n)
  | _, _, 0, r => r
  | _, _, _ + 1, .nil => .nil
  | _, _, n + 1, .cons h t => Reps.drop n t
theorem Reps.set {K : PySem.W.Frag} {F : Hp} {v : V} {d : D} (h : Rep K F v d) : ∀ {vs : List V} {ds : List D} (n : Nat), Reps K F vs ds → Reps K F (vs.set n v) (ds.set n d)
  | _, _, _, .nil => .nil
  | _, _, 0, .cons _ t => .cons h t
  | _, _, n + 1, .cons g t => .cons g (Reps.set h n t)
theorem Reps.ints {K : PySem.W.Frag} {F : Hp} : ∀ {ns : List Int}, Reps K F (ns.map V.int) (ns.map D.int)
  | [] => .nil
  | n :: ns => .cons (.int n) (Reps.ints (ns := ns))
theorem Reps.bls {K : PySem.W.Frag} {F : Hp} : ∀ {bs : List Bool} {vs : List V}, Reps K F vs (bs.map D.bl) → vs = bs.map V.bl
  | [], _, .nil => rfl
  | b :: bs, _, .cons h t => by
    cases h
    show _ :: _ = _ :: _
    rw [Reps.bls t]
theorem Reps.intsV {K : PySem.W.Frag} {F : Hp} : ∀ {ns : List Int} {vs : List V}, Reps K F vs (ns.map D.int) → vs = ns.map V.int
  | [], _, .nil => rfl
  | n :: ns, _, .cons h t => by
    cases h
    show _ :: _ = _ :: _
    rw [Reps.intsV t]

/-- the type of a thing -/
def tyD : D → Value
  | .non => .type "NoneType" | .bl _ => .type "bool" | .int _ => .type "int" | .str _ => .type "str" | .tup _ => .type "tuple" | .lst _ => .type "list" | .fl _ => .type "list" | .ty _ => .type "type" | .oth t => t | .ins C _ => .ref C | .adr _ => .type "list"
def noTy : D → Prop | .ty _ => False | .ins _ _ => False | .adr _ => False | _ => True
theorem Rep.tyX {K : PySem.W.Frag} {F : Hp} {v : V} {d : D} (h : Rep K F v d) (n : noTy d) : TyX K F v (tyD d) := by
  cases h with
  | non => exact .base .non
  | bl b => exact .base (.bl b)
  | int i => exact .base (.int i)
  | str x => exact .base (.str x)
  | tup h _ =>
    rcases h with (h | ⟨o, h⟩) | ⟨o, its, n, h, c, _⟩
    · exact .base (.tup h)
    · exact .fTuple h
    · exact .kTuple h c
  | lst h _ => exact .base (.lst h)
  | fl h _ =>
    rcases h with (h | ⟨o, h⟩) | ⟨o, its, n, h, c, _⟩
    · exact .base (.lst h)
    · exact .base (.frz h)
    · exact .kList h c
  | ty n => exact n.elim
  | oth h => exact h
  | ins _ _ => exact n.elim
  | adr _ => exact n.elim

/-! ## the state -/
inductive Cont where
  | lst (ds : List D) | obj (C dx : Addr) (fs : List (Str × D)) | pool (a b : Int) (q : Addr) (ns : List Int)
inductive Cell where
  | any | dat (d : D) | own (p : Addr) (c : Cont)
/-- no table of code objects -/
def NT (o : HO) : Prop := ∀ ps, o ≠ .tbl ps
theorem nt_lst {xs : List V} : NT (.lst xs) := fun ps z => by cases z
theorem nt_xd {xs : List (Str × V)} : NT (.xd xs) := fun ps z => by cases z
theorem nt_ins {C dx : Addr} {fs : List (Str × V)} : NT (.ins C dx fs) := fun ps z => by cases z
inductive CRep (K : PySem.W.Frag) (F : Hp) : HO → Cont → Prop
  | lst {vs : List V} {ds : List D} : Reps K F vs ds → CRep K F (.lst vs) (.lst ds)
  | obj {C dx : Addr} {vs : List (Str × V)} {ds : List (Str × D)} : FRep K F vs ds → CRep K F (.ins C dx vs) (.obj C dx ds)
  | pool {a b : Int} {q : Addr} {ns : List Int} : CRep K F (.lst [.int a, .int b, .ref q]) (.pool a b q ns)
theorem CRep.mono {K : PySem.W.Frag} {F F' : Hp} {o : HO} {c : Cont} (s : Same F F') (h : CRep K F o c) : CRep K F' o c := by
  cases h with
  | lst r => exact .lst (r.mono s)
  | obj r => exact .obj (r.mono s)
  | pool => exact .pool
theorem CRep.nt {K : PySem.W.Frag} {F : Hp} {o : HO} {c : Cont} (h : CRep K F o c) : NT o := by
  cases h with
  | lst r => exact nt_lst
  | obj r => exact nt_ins
  | pool => exact nt_lst
/-- what else belongs to an own thing -/
def Foot : Cont → Addr → Prop
  | .pool _ _ q _, a => a = q
  | _, _ => False
/-- the addresses that a cell has for its own -/
def Has : Cell → Addr → Prop
  | .own p k, a => a = p ∨ Foot k a
  | _, _ => False
def SubOk (F H : Hp) (p : Addr) : Cont → Prop
  | .pool _ _ q ns => q ≠ p ∧ F q = none ∧ H q = some (.lst (ns.map V.int))
  | _ => True
def Flat : Cont → Prop
  | .pool _ _ _ _ => False
  | _ => True
theorem Flat.no {k : Cont} (f : Flat k) {a : Addr} : ¬ Foot k a := by
  cases k with
  | lst ds => exact id
  | obj C dx fs => exact id
  | pool a b q ns => exact f.elim
theorem Flat.sub {k : Cont} (f : Flat k) {F H : Hp} {p : Addr} : SubOk F H p k := by
  cases k with
  | lst ds => exact trivial
  | obj C dx fs => exact trivial
  | pool a b q ns => exact f.elim
def CellOk (K : PySem.W.Frag) (F H : Hp) : Cell → Prop
  | .own p k => F p = none ∧ ∃ vs, H p = some vs ∧ CRep K F vs k ∧ SubOk F H p k
  | _ => True
theorem CellOk.has {K : PySem.W.Frag} {F H : Hp} {c : Cell} {a : Addr} (h : CellOk K F H c) (f : Has c a) : F a = none ∧ ∃ u, H a = some u ∧ NT u := by
  cases c with
  | any => exact f.elim
  | dat d => exact f.elim
  | own p k =>
    obtain ⟨h1, vs, h2, h3, h4⟩ := h
    rcases f with rfl | f
    · exact ⟨h1, vs, h2, h3.nt⟩
    · cases k with
      | lst ds => exact f.elim
      | obj C dx fs => exact f.elim
      | pool x y q ns =>
        have f : a = q := f
        subst f
        exact ⟨h4.2.1, _, h4.2.2, nt_lst⟩
theorem CellOk.move {K : PySem.W.Frag} {F H F' H' : Hp} {c : Cell} (h : CellOk K F H c) (s : Same F F') (m : ∀ a, Has c a → F' a = none ∧ ∀ u, H a = some u → NT u → H' a = some u) : CellOk K F' H' c := by
  cases c with
  | any => exact trivial
  | dat d => exact trivial
  | own p k =>
    obtain ⟨h1, vs, h2, h3, h4⟩ := h
    refine ⟨(m p (.inl rfl)).1, vs, (m p (.inl rfl)).2 _ h2 h3.nt, h3.mono s, ?_⟩
    cases k with
    | lst ds => exact trivial
    | obj C dx fs => exact trivial
    | pool x y q ns => exact ⟨h4.1, (m q (.inr rfl)).1, (m q (.inr rfl)).2 _ h4.2.2 nt_lst⟩
theorem CellOk.flat {K : PySem.W.Frag} {F H : Hp} {p : Addr} {k : Cont} {vs : HO} (fl : Flat k) (h1 : F p = none) (h2 : H p = some vs) (h3 : CRep K F vs k) : CellOk K F H (.own p k) := ⟨h1, vs, h2, h3, fl.sub⟩

/-- a mutable list that is the frame's own -/
def OwnOk (K : PySem.W.Frag) (F H : Hp) (τ : List Cell) : Prop := ∀ (i : Nat) (c : Cell), τ[i]? = some c → CellOk K F H c
def InjOk (τ : List Cell) : Prop := ∀ (i j : Nat) (c d : Cell) (a : Addr), τ[i]? = some c → τ[j]? = some d → Has c a → Has d a → i = j
def SlotOk (K : PySem.W.Frag) (F : Hp) (s : Option V) : Cell → Prop
  | .any => True
  | .dat d => ∃ v, s = some v ∧ Rep K F v d
  | .own p _ => s = some (.ref p)
/-- the tables of code objects that are in use -/
class TabT where
  T : List (Addr × Str)
variable [TB : TabT]
theorem tabs_upd {T : List (Addr × Str)} {H : Hp} {p : Addr} {o : HO} (h : ∀ u, H p = some u → (∀ ps, u ≠ .tbl ps) ∧ ∀ c q, u ≠ LamX.CodeO c q) (t : LamX.Tabs T H) : LamX.Tabs T (upd H p o) := by
  intro x hx
  obtain ⟨ps, h1, h2, h3⟩ := t x hx
  refine ⟨ps, ?_, h2, fun pos cv e => ?_⟩
  · rw [upd_ne (fun z => by rw [z] at h1; exact (h _ h1).1 ps rfl)]
    exact h1
  · obtain ⟨c, e1, e2⟩ := h3 pos cv e
    refine ⟨c, e1, ?_⟩
    rw [upd_ne (fun z => by rw [z] at e2; exact (h _ e2).2 _ _ rfl)]
    exact e2
theorem tabs_new {T : List (Addr × Str)} {H : Hp} {p : Addr} {o : HO} (h : H p = none) (t : LamX.Tabs T H) : LamX.Tabs T (upd H p o) := tabs_upd (fun u e => by rw [h] at e; cases e) t
theorem tabs_crep {T : List (Addr × Str)} {K : PySem.W.Frag} {F H : Hp} {p : Addr} {o u : HO} {c : Cont} (h : H p = some u) (r : CRep K F u c) (t : LamX.Tabs T H) : LamX.Tabs T (upd H p o) :=
  tabs_upd (fun v e => by
    rw [h] at e
    cases e
    refine ⟨r.nt, fun c q z => ?_⟩
    unfold LamX.CodeO at z
    cases r <;> cases z) t
theorem tabs_lst {T : List (Addr × Str)} {H : Hp} {p : Addr} {o : HO} {xs : List V} (h : H p = some (.lst xs)) : LamX.Tabs T H → LamX.Tabs T (upd H p o) :=
  tabs_upd fun v e => by
    rw [h] at e
    cases e
    exact ⟨fun ps z => (by cases z), fun c q z => (by unfold LamX.CodeO at z; cases z)⟩
theorem tabs_dK {T : List (Addr × Str)} {H : Hp} {p : Addr} {o : HO} {xs : List (Key × V)} (h : H p = some (.dK xs)) : LamX.Tabs T H → LamX.Tabs T (upd H p o) :=
  tabs_upd fun v e => by
    rw [h] at e
    cases e
    exact ⟨fun ps z => (by cases z), fun c q z => (by unfold LamX.CodeO at z; cases z)⟩
/-- the tables stand, and no data is one -/
def Good (F H : Hp) : Prop := LamX.Tabs TB.T H ∧ ∀ a o, F a = some o → NT o
theorem nt_upd {F : Hp} {p : Addr} {o : HO} (nt : NT o) (h : ∀ a u, F a = some u → NT u) : ∀ a u, upd F p o a = some u → NT u := fun a u e => by
  by_cases q : a = p
  · subst q; rw [upd_same] at e; cases e; exact nt
  · rw [upd_ne q] at e; exact h a u e
structure SOk (K : PySem.W.Frag) (F H : Hp) (σ : L2.St) (τ : List Cell) : Prop where
  tabs : Good F H
  sub : Same F H
  len : σ.length = τ.length
  slot : ∀ (i : Nat) (s : Option V) (c : Cell), σ[i]? = some s → τ[i]? = some c → SlotOk K F s c
  own : OwnOk K F H τ
  inj : InjOk τ
def IsOwn (τ : List Cell) (p : Addr) : Prop := ∃ (i : Nat) (c : Cell), τ[i]? = some c ∧ Has c p
theorem isOwn_at {τ : List Cell} {i : Nat} {p : Addr} {k : Cont} (h : τ[i]? = some (.own p k)) : IsOwn τ p := ⟨i, _, h, .inl rfl⟩
theorem OwnOk.has {K : PySem.W.Frag} {F H : Hp} {τ : List Cell} {a : Addr} (o : OwnOk K F H τ) (h : IsOwn τ a) : F a = none ∧ ∃ u, H a = some u ∧ NT u := by
  obtain ⟨i, c, e, f⟩ := h
  exact (o i c e).has f
theorem set_get {τ : List Cell} {i j : Nat} {c d : Cell} (h : (τ.set i c)[j]? = some d) : (j = i ∧ d = c ∧ i < τ.length) ∨ (j ≠ i ∧ τ[j]? = some d) := by
  by_cases e : i = j
  · subst e
    by_cases hl : i < τ.length
    · rw [List.getElem?_set_self hl] at h
      cases h
      exact .inl ⟨rfl, rfl, hl⟩
    · rw [List.getElem?_eq_none (by rw [List.length_set]; exact Nat.le_of_not_lt hl)] at h
      cases h
  · rw [List.getElem?_set_ne e] at h
    exact .inr ⟨fun z => e z.symm, h⟩
theorem isOwn_set {τ : List Cell} {i : Nat} {c : Cell} (hc : ∀ a, ¬ Has c a) {p : Addr} (h : IsOwn (τ.set i c) p) : IsOwn τ p := by
  obtain ⟨j, d, e, f⟩ := h
  rcases set_get e with ⟨_, rfl, _⟩ | ⟨_, e⟩
  · exact absurd f (hc p)
  · exact ⟨j, d, e, f⟩
theorem InjOk.set {τ : List Cell} {i : Nat} {c : Cell} (h : InjOk τ) (hc : ∀ a, Has c a → ∀ j d, j ≠ i → τ[j]? = some d → ¬ Has d a) : InjOk (τ.set i c) := by
  intro j k d e a h1 h2 f1 f2
  rcases set_get h1 with ⟨a1, e1, _⟩ | ⟨n1, g1⟩
  · rcases set_get h2 with ⟨b1, e2, _⟩ | ⟨n2, g2⟩
    · rw [a1, b1]
    · exact absurd f2 (hc a (e1 ▸ f1) k e n2 g2)
  · rcases set_get h2 with ⟨b1, e2, _⟩ | ⟨n2, g2⟩
    · exact absurd f1 (hc a (e2 ▸ f2) j d n1 g1)
    · exact h j k d e a g1 g2 f1 f2
/-- nothing is there, or a table -/
def Fr (H : Hp) (a : Addr) : Prop := ∀ o, H a = some o → ¬ NT o
theorem fr_none {H : Hp} {a : Addr} (h : H a = none) : Fr H a := fun o e => by rw [h] at e; cases e
theorem fr_ne {H : Hp} {a p : Addr} {o : HO} (e : H a = some o) (nt : NT o) (h : Fr H p) : a ≠ p := fun z => h o (by rw [← z]; exact e) nt
/-- from (F, H) to (F', H'), where what is own may change -/
structure Ext (τ : List Cell) (F H F' H' : Hp) : Prop where
  f : Same F F'
  new : ∀ a o, F' a = some o → F a = some o ∨ Fr H a ∨ IsOwn τ a
  keep : ∀ a o, H a = some o → ¬ IsOwn τ a → NT o → H' a = some o
  there : ∀ a, Fr H' a → Fr H a
  tabs : Good F H → Good F' H'
/-- what is own behind was own ahead, or is new -/
def Grow (τ : List Cell) (H : Hp) (τ' : List Cell) : Prop := ∀ p, IsOwn τ' p → IsOwn τ p ∨ Fr H p
theorem Ext.refl (τ : List Cell) (F H : Hp) : Ext τ F H F H := ⟨Same.refl F, fun _ _ h => .inl h, fun _ _ h _ _ => h, fun _ h => h, id⟩
theorem Grow.refl (τ : List Cell) (H : Hp) : Grow τ H τ := fun _ h => .inl h
theorem Ext.trans {τ τ1 : List Cell} {F H F1 H1 F2 H2 : Hp} (a : Ext τ F H F1 H1) (g : Grow τ H τ1) (b : Ext τ1 F1 H1 F2 H2) : Ext τ F H F2 H2 := by
  refine ⟨a.f.trans b.f, fun x o e => ?_, fun x o e n nt => ?_, fun x h => a.there x (b.there x h), fun t => b.tabs (a.tabs t)⟩
  · rcases b.new x o e with h | h | h
    · exact a.new x o h
    · exact .inr (.inl (a.there x h))
    · rcases g x h with h | h
      · exact .inr (.inr h)
      · exact .inr (.inl h)
  · refine b.keep x o (a.keep x o e n nt) (fun h => ?_) nt
    rcases g x h with h | h
    · exact n h
    · exact h o e nt
theorem Grow.trans {τ τ1 τ2 : List Cell} {F H F1 H1 : Hp} (a : Ext τ F H F1 H1) (g : Grow τ H τ1) (g' : Grow τ1 H1 τ2) : Grow τ H τ2 := fun p h => by
  rcases g' p h with h | h
  · exact g p h
  · exact .inr (a.there p h)
/-- a new frozen object -/
theorem Ext.laid {τ : List Cell} {F H : Hp} {p : Addr} {o : HO} (s : Same F H) (h : H p = none) (nt : NT o) : Ext τ F H (upd F p o) (upd H p o) := by
  refine ⟨fun a u e => ?_, fun a u e => ?_, fun a u e _ _ => ?_, fun a e => ?_, fun g => ⟨tabs_new h g.1, nt_upd nt g.2⟩⟩
  · rw [upd_ne (ne_of_none (s _ _ e) h)]; exact e
  · by_cases q : a = p
    · subst q; exact .inr (.inl (fr_none h))
    · rw [upd_ne q] at e; exact .inl e
  · rw [upd_ne (ne_of_none e h)]; exact e
  · by_cases q : a = p
    · subst q; exact fr_none h
    · exact fun o' e' => e o' (by rw [upd_ne q]; exact e')
/-- a new object that is not tracked as data -/
theorem Ext.laid0 {τ : List Cell} {F H : Hp} {p : Addr} {o : HO} (h : H p = none) : Ext τ F H F (upd H p o) := by
  refine ⟨Same.refl F, fun a u e => .inl e, fun a u e _ _ => ?_, fun a e => ?_, fun g => ⟨tabs_new h g.1, g.2⟩⟩
  · rw [upd_ne (ne_of_none e h)]; exact e
  · by_cases q : a = p
    · subst q; exact fr_none h
    · exact fun o' e' => e o' (by rw [upd_ne q]; exact e')
theorem SlotOk.mono {K : PySem.W.Frag} {F F' : Hp} (s : Same F F') {v : Option V} {c : Cell} (h : SlotOk K F v c) : SlotOk K F' v c := by
  cases c with
  | any => exact trivial
  | dat d => obtain ⟨x, e, r⟩ := h; exact ⟨x, e, r.mono s⟩
  | own p ds => exact h
/-- a step that changes nothing of what is own -/
theorem SOk.ext {K : PySem.W.Frag} {F H F' H' : Hp} {σ : L2.St} {τ : List Cell} (S : SOk K F H σ τ) (e : Ext [] F H F' H') (sub : Same F' H') : SOk K F' H' σ τ := by
  have no : ∀ a, ¬ IsOwn [] a := fun a ⟨i, c, h, _⟩ => by simp at h
  refine ⟨e.tabs S.tabs, sub, S.len, fun i s c h1 h2 => (S.slot i s c h1 h2).mono e.f, fun i c h => (S.own i c h).move e.f fun a f => ?_, S.inj⟩
  obtain ⟨h1, u, h2, h3⟩ := (S.own i c h).has f
  refine ⟨?_, fun o ho nt => e.keep a o ho (no a) nt⟩
  cases q : F' a with
  | none => rfl
  | some o =>
    rcases e.new a o q with z | z | z
    · rw [h1] at z; cases z
    · exact (z _ h2 h3).elim
    · exact absurd z (no a)
theorem Ext.wk {τ : List Cell} {F H F' H' : Hp} (e : Ext [] F H F' H') : Ext τ F H F' H' := by
  have no : ∀ a, ¬ IsOwn [] a := fun a ⟨i, c, h, _⟩ => by simp at h
  refine ⟨e.f, fun a o h => ?_, fun a o h _ nt => e.keep a o h (no a) nt, e.there, e.tabs⟩
  rcases e.new a o h with z | z | z
  · exact .inl z
  · exact .inr (.inl z)
  · exact absurd z (no a)

/-! ## judgements -/
structure Xn where
  cls : Addr
  fs : List (Str × D)
structure XRep (K : PySem.W.Frag) (F H : Hp) (cls : Value) (dx : Option Addr) (x : Xn) : Prop where
  c : cls = .ref x.cls
  f : (x.fs = [] ∧ dx = none) ∨ (x.fs ≠ [] ∧ ∃ a vs, dx = some a ∧ H a = some (.xd vs) ∧ FRep K F vs x.fs)

abbrev EW := List Cell → (D → List Cell → Prop) → (Xn → List Cell → Prop) → Prop
abbrev TW := List Cell → (Bool → List Cell → Prop) → (Xn → List Cell → Prop) → Prop
abbrev AW := List Cell → (List D → List Cell → Prop) → (Xn → List Cell → Prop) → Prop
structure EndsD where
  nx : List Cell → Prop
  rt : D → List Cell → Prop
  rf : Cont → List Cell → Prop := fun _ _ => False
  bk : List Cell → Prop := fun _ => False
  ct : List Cell → Prop := fun _ => False
  ex : Xn → List Cell → Prop := fun _ _ => False
abbrev SW := EndsD → List Cell → Prop

/-- where an expression has led -/
structure To (K : PySem.W.Frag) (F H : Hp) (σ : L2.St) (τ : List Cell) (F' H' : Hp) (τ' : List Cell) : Prop where
  ext : Ext τ F H F' H'
  grow : Grow τ H τ'
  ok : SOk K F' H' σ τ'
theorem To.refl {K : PySem.W.Frag} {F H : Hp} {σ : L2.St} {τ : List Cell} (S : SOk K F H σ τ) : To K F H σ τ F H τ := ⟨.refl _ _ _, .refl _ _, S⟩
theorem To.trans {K : PySem.W.Frag} {F H F1 H1 F2 H2 : Hp} {σ σ' : L2.St} {τ τ1 τ2 : List Cell} (a : To K F H σ τ F1 H1 τ1) (b : To K F1 H1 σ' τ1 F2 H2 τ2) : To K F H σ' τ F2 H2 τ2 :=
  ⟨a.ext.trans a.grow b.ext, .trans a.ext a.grow b.grow, b.ok⟩
theorem To.small {K : PySem.W.Frag} {F H F' H' : Hp} {σ : L2.St} {τ : List Cell} (S : SOk K F H σ τ) (e : Ext [] F H F' H') (sub : Same F' H') : To K F H σ τ F' H' τ := ⟨e.wk, .refl _ _, S.ext e sub⟩

def XTo (K : PySem.W.Frag) (W : WX) (F H : Hp) (σ : L2.St) (τ : List Cell) (e : Xn → List Cell → Prop) : Prop :=
  ∀ x cls dx τ' F' H', To K F H σ τ F' H' τ' → XRep K F' H' cls dx x → e x τ' → W cls dx σ H'
theorem XTo.of {K : PySem.W.Frag} {W : WX} {F H F1 H1 : Hp} {σ : L2.St} {τ τ1 : List Cell} {e : Xn → List Cell → Prop} (x : XTo K W F H σ τ e) (t : To K F H σ τ F1 H1 τ1) : XTo K W F1 H1 σ τ1 e :=
  fun y cls dx τ' F' H' u r q => x y cls dx τ' F' H' (t.trans u) r q
structure DE (K : PySem.W.Frag) (W : WX) (t : TE) (w : EW) : Prop where
  run : ∀ σ H τ F Q q e, SOk K F H σ τ → w τ q e → (∀ v d τ' F' H', To K F H σ τ F' H' τ' → Rep K F' v d → q d τ' → Q v H') → XTo K W F H σ τ e → t σ H Q
structure DT (K : PySem.W.Frag) (W : WX) (t : TT) (w : TW) : Prop where
  run : ∀ σ H τ F Q q e, SOk K F H σ τ → w τ q e → (∀ b τ' F' H', To K F H σ τ F' H' τ' → q b τ' → Q b H') → XTo K W F H σ τ e → t σ H Q
structure DA (K : PySem.W.Frag) (W : WX) (t : TA) (w : AW) : Prop where
  run : ∀ σ H τ F Q q e, SOk K F H σ τ → w τ q e → (∀ vs ds τ' F' H', To K F H σ τ F' H' τ' → Reps K F' vs ds → q ds τ' → Q vs H') → XTo K W F H σ τ e → t σ H Q

section
variable {K : PySem.W.Frag} {W : WX}

def wVar (i : Nat) : EW := fun τ q _ => ∃ d, τ[i]? = some (.dat d) ∧ q d τ
theorem de_var (i : Nat) : DE K W (tVar i) (wVar i) := by
  refine ⟨fun σ H τ F Q q e S ⟨d, h, hq⟩ k _ => ?_⟩
  have hi : i < σ.length := by rw [S.len]; exact (List.getElem?_eq_some_iff.mp h).1
  obtain ⟨v, e1, r⟩ := S.slot i σ[i] _ (List.getElem?_eq_getElem hi) h
  exact ⟨v, by rw [List.getElem?_eq_getElem hi, e1], k v d τ F H (.refl S) r hq⟩
def wC (d : D) : EW := fun τ q _ => q d τ
theorem de_c {v : V} {d : D} (h : ∀ F, Rep K F v d) : DE K W (tC v) (wC d) := ⟨fun σ H τ F Q q e S hq k _ => k v d τ F H (.refl S) (h F) hq⟩
theorem de_int {i : Int} : DE K W (tC (.int i)) (wC (.int i)) := de_c fun _ => .int i
theorem de_bl {i : Bool} : DE K W (tC (.bl i)) (wC (.bl i)) := de_c fun _ => .bl i
theorem de_non : DE K W (tC .non) (wC .non) := de_c fun _ => .non
theorem de_str {x : Str} : DE K W (tC (.str x)) (wC (.str x)) := de_c fun _ => .str x

/-- an operation that changes nothing that is there -/
def Op2 (K : PySem.W.Frag) (r : R2) (g : D → D → (D → Prop) → Prop) : Prop :=
  ∀ F H x y d1 d2 (q : D → Prop) Q, Same F H → Rep K F x d1 → Rep K F y d2 → g d1 d2 q → (∀ v d F' H', Ext [] F H F' H' → Same F' H' → Rep K F' v d → q d → Q v H') → r x y H Q
def wOp (g : D → D → (D → Prop) → Prop) (wa wb : EW) : EW := fun τ q e => wa τ (fun d1 τ1 => wb τ1 (fun d2 τ2 => g d1 d2 fun d => q d τ2) e) e
theorem de_op {r : R2} {g : D → D → (D → Prop) → Prop} {ta tb : TE} {wa wb : EW} (o : Op2 K r g) (ha : DE K W ta wa) (hb : DE K W tb wb) : DE K W (tOp r ta tb) (wOp g wa wb) := by
  refine ⟨fun σ H τ F Q q e S h k x => ?_⟩
  refine ha.run σ H τ F _ _ e S h (fun v1 d1 τ1 F1 H1 t1 r1 h1 => ?_) x
  refine hb.run σ H1 τ1 F1 _ _ e t1.ok h1 (fun v2 d2 τ2 F2 H2 t2 r2 h2 => ?_) (x.of t1)
  refine o F2 H2 v1 v2 d1 d2 _ Q t2.ok.sub (r1.mono t2.ext.f) r2 h2 fun v d F3 H3 e3 s3 r3 h3 => ?_
  exact k v d τ2 F3 H3 ((t1.trans t2).trans (.small t2.ok e3 s3)) r3 h3
def g2I (f : Int → Int → D) : D → D → (D → Prop) → Prop := fun x y q => ∃ i j, x = .int i ∧ y = .int j ∧ q (f i j)
def g2IC (C : Int → Int → Prop) (f : Int → Int → D) : D → D → (D → Prop) → Prop := fun x y q => ∃ i j, x = .int i ∧ y = .int j ∧ C i j ∧ q (f i j)
theorem Rep.int_of {F : Hp} {v : V} {i : Int} (h : Rep K F v (.int i)) : v = .int i := by cases h; rfl
theorem Rep.bl_of {F : Hp} {v : V} {i : Bool} (h : Rep K F v (.bl i)) : v = .bl i := by cases h; rfl
theorem op2I {f : Int → Int → V} {g : Int → Int → D} (h : ∀ F i j, Rep K F (f i j) (g i j)) : Op2 K (rI0 f) (g2I g) := by
  rintro F H x y d1 d2 q Q s r1 r2 ⟨i, j, rfl, rfl, hq⟩ k
  exact ⟨i, j, r1.int_of, r2.int_of, k _ _ F H (.refl _ _ _) s (h F i j) hq⟩
theorem op2IC {C : Int → Int → Prop} {f : Int → Int → V} {g : Int → Int → D} (h : ∀ F i j, Rep K F (f i j) (g i j)) : Op2 K (rI C f) (g2IC C g) := by
  rintro F H x y d1 d2 q Q s r1 r2 ⟨i, j, rfl, rfl, hc, hq⟩ k
  exact ⟨i, j, r1.int_of, r2.int_of, hc, k _ _ F H (.refl _ _ _) s (h F i j) hq⟩
theorem o_add : Op2 K (rI0 fun i j => .int (i + j)) (g2I fun i j => .int (i + j)) := op2I fun _ _ _ => .int _
theorem o_sub : Op2 K (rI0 fun i j => .int (i - j)) (g2I fun i j => .int (i - j)) := op2I fun _ _ _ => .int _
theorem o_lt : Op2 K (rI0 fun i j => .bl (decide (i < j))) (g2I fun i j => .bl (decide (i < j))) := op2I fun _ _ _ => .bl _
theorem o_le : Op2 K (rI0 fun i j => .bl (decide (i ≤ j))) (g2I fun i j => .bl (decide (i ≤ j))) := op2I fun _ _ _ => .bl _
theorem o_gt : Op2 K (rI0 fun i j => .bl (decide (j < i))) (g2I fun i j => .bl (decide (j < i))) := op2I fun _ _ _ => .bl _
theorem o_ge : Op2 K (rI0 fun i j => .bl (decide (j ≤ i))) (g2I fun i j => .bl (decide (j ≤ i))) := op2I fun _ _ _ => .bl _
theorem o_mul : Op2 K (rI CMul fun i j => .int (i * j)) (g2IC CMul fun i j => .int (i * j)) := op2IC fun _ _ _ => .int _
theorem o_fdiv : Op2 K (rI CDiv fun i j => .int (i / j)) (g2IC CDiv fun i j => .int (i / j)) := op2IC fun _ _ _ => .int _
theorem o_mod : Op2 K (rI (fun _ j => 0 < j) fun i j => .int (i % j)) (g2IC (fun _ j => 0 < j) fun i j => .int (i % j)) := op2IC fun _ _ _ => .int _
theorem o_pow : Op2 K (rI CPow fun i j => .int (i ^ j.toNat)) (g2IC CPow fun i j => .int (i ^ j.toNat)) := op2IC fun _ _ _ => .int _

end
end L3

/-! ## expressions, on -/
namespace L3
open PySem PySem.Spec PyProof.Rows L2
variable [TB : TabT]
section
variable {K : PySem.W.Frag} {W : WX}

/-- an expression and its reading by data -/
def CE (X : Cx) (W : WX) (e : Expr) (w : EW) : Prop := ∃ t, PE X e t ∧ DE X.K W t w
def CT (X : Cx) (W : WX) (e : Expr) (w : TW) : Prop := ∃ t, PT X e t ∧ DT X.K W t w
def CA (X : Cx) (W : WX) (es : List Expr) (w : AW) : Prop := ∃ t, PA X es t ∧ DA X.K W t w

def wB (we : EW) : TW := fun τ q e => we τ (fun d τ' => ∃ b, d = .bl b ∧ q b τ') e
theorem dt_B {t : TE} {w : EW} (h : DE K W t w) : DT K W (tB t) (wB w) := by
  refine ⟨fun σ H τ F Q q e S hw k x => h.run σ H τ F _ _ e S hw (fun v d τ' F' H' t' r ⟨b, e', hq⟩ => ?_) x⟩
  subst e'
  exact ⟨b, r.bl_of, k b τ' F' H' t' hq⟩
def wNot (wt : TW) : TW := fun τ q e => wt τ (fun b τ' => q (!b) τ') e
theorem dt_not {t : TT} {w : TW} (h : DT K W t w) : DT K W (tNot t) (wNot w) :=
  ⟨fun σ H τ F Q q e S hw k x => h.run σ H τ F _ _ e S hw (fun b τ' F' H' t' hq => k _ τ' F' H' t' hq) x⟩
def wAnd (wa wb : TW) : TW := fun τ q e => wa τ (fun b τ' => (b = true → wb τ' q e) ∧ (b = false → q false τ')) e
theorem dt_and {t u : TT} {w v : TW} (h : DT K W t w) (g : DT K W u v) : DT K W (tAnd t u) (wAnd w v) := by
  refine ⟨fun σ H τ F Q q e S hw k x => h.run σ H τ F _ _ e S hw (fun b τ' F' H' t' ⟨h1, h2⟩ => ?_) x⟩
  cases b with
  | true =>
    refine iteT ?_
    exact g.run σ H' τ' F' _ _ e t'.ok (h1 rfl) (fun b τ2 F2 H2 t2 hq => k b τ2 F2 H2 (t'.trans t2) hq) (x.of t')
  | false => exact iteF (k false τ' F' H' t' (h2 rfl))
def wOr (wa wb : TW) : TW := fun τ q e => wa τ (fun b τ' => (b = false → wb τ' q e) ∧ (b = true → q true τ')) e
theorem dt_or {t u : TT} {w v : TW} (h : DT K W t w) (g : DT K W u v) : DT K W (tOr t u) (wOr w v) := by
  refine ⟨fun σ H τ F Q q e S hw k x => h.run σ H τ F _ _ e S hw (fun b τ' F' H' t' ⟨h1, h2⟩ => ?_) x⟩
  cases b with
  | false =>
    refine iteF ?_
    exact g.run σ H' τ' F' _ _ e t'.ok (h1 rfl) (fun b τ2 F2 H2 t2 hq => k b τ2 F2 H2 (t'.trans t2) hq) (x.of t')
  | true => exact iteT (k true τ' F' H' t' (h2 rfl))
def wAndV (wa wb : EW) : EW := fun τ q e => wa τ (fun d τ' => ∃ b, d = .bl b ∧ (b = true → wb τ' q e) ∧ (b = false → q (.bl false) τ')) e
theorem de_and {t u : TE} {w v : EW} (h : DE K W t w) (g : DE K W u v) : DE K W (tAndV t u) (wAndV w v) := by
  refine ⟨fun σ H τ F Q q e S hw k x => h.run σ H τ F _ _ e S hw (fun z d τ' F' H' t' r ⟨b, e', h1, h2⟩ => ?_) x⟩
  subst e'
  refine ⟨b, r.bl_of, ?_⟩
  cases b with
  | true =>
    refine iteT ?_
    exact g.run σ H' τ' F' _ _ e t'.ok (h1 rfl) (fun z b τ2 F2 H2 t2 r2 hq => k z b τ2 F2 H2 (t'.trans t2) r2 hq) (x.of t')
  | false => exact iteF (k _ _ τ' F' H' t' (.bl false) (h2 rfl))
def wOrV (wa wb : EW) : EW := fun τ q e => wa τ (fun d τ' => ∃ b, d = .bl b ∧ (b = false → wb τ' q e) ∧ (b = true → q (.bl true) τ')) e
theorem de_or {t u : TE} {w v : EW} (h : DE K W t w) (g : DE K W u v) : DE K W (tOrV t u) (wOrV w v) := by
  refine ⟨fun σ H τ F Q q e S hw k x => h.run σ H τ F _ _ e S hw (fun z d τ' F' H' t' r ⟨b, e', h1, h2⟩ => ?_) x⟩
  subst e'
  refine ⟨b, r.bl_of, ?_⟩
  cases b with
  | false =>
    refine iteF ?_
    exact g.run σ H' τ' F' _ _ e t'.ok (h1 rfl) (fun z b τ2 F2 H2 t2 r2 hq => k z b τ2 F2 H2 (t'.trans t2) r2 hq) (x.of t')
  | true => exact iteT (k _ _ τ' F' H' t' (.bl true) (h2 rfl))
def wNotV (wa : EW) : EW := fun τ q e => wa τ (fun d τ' => ∃ b, d = .bl b ∧ q (.bl (!b)) τ') e
theorem de_not {t : TE} {w : EW} (h : DE K W t w) : DE K W (tNotV t) (wNotV w) := by
  refine ⟨fun σ H τ F Q q e S hw k x => h.run σ H τ F _ _ e S hw (fun z d τ' F' H' t' r ⟨b, e', h1⟩ => ?_) x⟩
  subst e'
  exact ⟨b, r.bl_of, k _ _ τ' F' H' t' (.bl _) h1⟩
def wIf (wc : TW) (wa wb : EW) : EW := fun τ q e => wc τ (fun b τ' => (b = true → wa τ' q e) ∧ (b = false → wb τ' q e)) e
theorem de_if {c : TT} {t u : TE} {wc : TW} {w v : EW} (h : DT K W c wc) (g : DE K W t w) (l : DE K W u v) : DE K W (tIf c t u) (wIf wc w v) := by
  refine ⟨fun σ H τ F Q q e S hw k x => h.run σ H τ F _ _ e S hw (fun b τ' F' H' t' ⟨h1, h2⟩ => ?_) x⟩
  cases b with
  | true =>
    refine iteT ?_
    exact g.run σ H' τ' F' _ _ e t'.ok (h1 rfl) (fun z b τ2 F2 H2 t2 r2 hq => k z b τ2 F2 H2 (t'.trans t2) r2 hq) (x.of t')
  | false =>
    refine iteF ?_
    exact l.run σ H' τ' F' _ _ e t'.ok (h2 rfl) (fun z b τ2 F2 H2 t2 r2 hq => k z b τ2 F2 H2 (t'.trans t2) r2 hq) (x.of t')
def wChain (g g' : D → D → (D → Prop) → Prop) (wa wb wc : EW) : EW := fun τ q e => wa τ (fun d1 τ1 => wb τ1 (fun d2 τ2 => g d1 d2 fun d => ∃ b, d = .bl b ∧
  (b = true → wc τ2 (fun d3 τ3 => g' d2 d3 fun d => q d τ3) e) ∧ (b = false → q (.bl false) τ2)) e) e
theorem de_chain {r r' : R2} {g g' : D → D → (D → Prop) → Prop} {ta tb tc : TE} {wa wb wc : EW} (o : Op2 K r g) (o' : Op2 K r' g') (ha : DE K W ta wa) (hb : DE K W tb wb) (hc : DE K W tc wc) : DE K W (tChain r r' ta tb tc) (wChain g g' wa wb wc) := by
  refine ⟨fun σ H τ F Q q e S h k x => ?_⟩
  refine ha.run σ H τ F _ _ e S h (fun v1 d1 τ1 F1 H1 t1 r1 h1 => ?_) x
  refine hb.run σ H1 τ1 F1 _ _ e t1.ok h1 (fun v2 d2 τ2 F2 H2 t2 r2 h2 => ?_) (x.of t1)
  refine o F2 H2 v1 v2 d1 d2 _ _ t2.ok.sub (r1.mono t2.ext.f) r2 h2 fun v d F3 H3 e3 s3 r3 ⟨b, eb, h3, h4⟩ => ?_
  subst eb
  have t3 : To K F2 H2 σ τ2 F3 H3 τ2 := .small t2.ok e3 s3
  have t03 := (t1.trans t2).trans t3
  refine ⟨b, r3.bl_of, ?_⟩
  cases b with
  | false => exact iteF (k _ _ τ2 F3 H3 t03 (.bl false) (h4 rfl))
  | true =>
    refine iteT ?_
    refine hc.run σ H3 τ2 F3 _ _ e t3.ok (h3 rfl) (fun v4 d4 τ4 F4 H4 t4 r4 h5 => ?_) (x.of t03)
    refine o' F4 H4 v2 v4 d2 d4 _ Q t4.ok.sub (r2.mono ((e3.f).trans t4.ext.f)) r4 h5 fun v d F5 H5 e5 s5 r5 h6 => ?_
    exact k v d τ4 F5 H5 ((t03.trans t4).trans (.small t4.ok e5 s5)) r5 h6

/-! ### arguments, calls of built-ins -/
def wNil : AW := fun τ q _ => q [] τ
def wCons (we : EW) (wa : AW) : AW := fun τ q e => we τ (fun d τ1 => wa τ1 (fun ds τ2 => q (d :: ds) τ2) e) e
theorem da_nil : DA K W tNil wNil := ⟨fun σ H τ F Q q e S hq k _ => k [] [] τ F H (.refl S) .nil hq⟩
theorem da_cons {t : TE} {u : TA} {w : EW} {v : AW} (h : DE K W t w) (g : DA K W u v) : DA K W (tCons t u) (wCons w v) := by
  refine ⟨fun σ H τ F Q q e S hw k x => h.run σ H τ F _ _ e S hw (fun z d τ' F' H' t' r h1 => ?_) x⟩
  refine g.run σ H' τ' F' _ _ e t'.ok h1 (fun zs ds τ2 F2 H2 t2 r2 hq => ?_) (x.of t')
  exact k (z :: zs) (d :: ds) τ2 F2 H2 (t'.trans t2) (.cons (r.mono t2.ext.f) r2) hq
def OpN (K : PySem.W.Frag) (r : List V → Hp → VK → Prop) (g : List D → (D → Prop) → Prop) : Prop :=
  ∀ F H xs ds (q : D → Prop) Q, Same F H → Reps K F xs ds → g ds q → (∀ v d F' H', Ext [] F H F' H' → Same F' H' → Rep K F' v d → q d → Q v H') → r xs H Q
def wCB (g : List D → (D → Prop) → Prop) (wa : AW) : EW := fun τ q e => wa τ (fun ds τ' => g ds fun d => q d τ') e
theorem de_cb {r : List V → Hp → VK → Prop} {g : List D → (D → Prop) → Prop} {t : TA} {w : AW} (o : OpN K r g) (h : DA K W t w) : DE K W (tCB r t) (wCB g w) := by
  refine ⟨fun σ H τ F Q q e S hw k x => h.run σ H τ F _ _ e S hw (fun zs ds τ' F' H' t' r' h1 => ?_) x⟩
  refine o F' H' zs ds _ Q t'.ok.sub r' h1 fun v d F2 H2 e2 s2 r2 hq => ?_
  exact k v d τ' F2 H2 (t'.trans (.small t'.ok e2 s2)) r2 hq
def seqD : D → Option (List D)
  | .tup ds => some ds | .lst ds => some ds | .fl ds => some ds | _ => none
theorem Rep.seq {F : Hp} {v : V} {d : D} {ds : List D} (h : Rep K F v d) (e : seqD d = some ds) : ∃ a xs, v = .ref a ∧ (SqL K F a xs ∨ SqT K F a xs) ∧ Reps K F xs ds := by
  cases h with
  | tup h r => cases e; exact ⟨_, _, rfl, .inr h, r⟩
  | lst h r => cases e; exact ⟨_, _, rfl, .inl (.inl (.inl h)), r⟩
  | fl h r => cases e; exact ⟨_, _, rfl, .inl h, r⟩
  | _ => cases e
theorem Reps.one {F : Hp} {xs : List V} {d : D} (h : Reps K F xs [d]) : ∃ v, xs = [v] ∧ Rep K F v d := by
  cases h with
  | cons h t => cases t; exact ⟨_, rfl, h⟩
theorem Reps.two {F : Hp} {xs : List V} {d d' : D} (h : Reps K F xs [d, d']) : ∃ v v', xs = [v, v'] ∧ Rep K F v d ∧ Rep K F v' d' := by
  cases h with
  | cons h t => obtain ⟨u, rfl, r⟩ := Reps.one t; exact ⟨_, _, rfl, h, r⟩
def gLen : List D → (D → Prop) → Prop := fun ds q => ∃ d es, ds = [d] ∧ seqD d = some es ∧ q (.int es.length)
def rLenS (K : PySem.W.Frag) : List V → Hp → VK → Prop := fun xs H Q => ∃ p ys, xs = [.ref p] ∧ (SqL K H p ys ∨ SqT K H p ys) ∧ Q (.int ys.length) H
theorem o_len : OpN K (rLenS K) gLen := by
  rintro F H xs ds q Q s r ⟨d, es, rfl, e, hq⟩ k
  obtain ⟨v, rfl, r1⟩ := r.one
  obtain ⟨a, ys, rfl, h, r2⟩ := r1.seq e
  refine ⟨a, ys, rfl, h.imp (fun h => s.seq h) (fun h => SqT_mono s h), ?_⟩
  exact k _ (.int es.length) F H (.refl _ _ _) s (by rw [r2.length]; exact .int _) hq
structure InsTy (K : PySem.W.Frag) (C : Addr) : Prop where
  cl : Cls K C
  ha : PySem.W.findIn K (.ref C) "__class__" = some (some (.builtin "object.__class__"))
  hn : PySem.W.specialIn K (.builtin "object.__class__") "__get__" = some (some (.builtin "getset_descriptor.__get__"))
  ht : PySem.W.takesIn K (.builtin "object.__class__") = some true
  hm : PySem.W.mroIn K C (.type "object") = some true
/-- its type is known -/
def TyOk (K : PySem.W.Frag) (d : D) : Prop := noTy d ∨ ∃ C gs, d = .ins C gs ∧ InsTy K C
theorem Rep.tyO {F : Hp} {v : V} {d : D} (h : Rep K F v d) (n : TyOk K d) : TyX K F v (tyD d) := by
  rcases n with n | ⟨C, gs, rfl, c⟩
  · exact h.tyX n
  · cases h with
    | ins ea _ => exact .base (.ins ea c.cl c.ha c.hn c.ht c.hm)
def gIsi (K : PySem.W.Frag) : List D → (D → Prop) → Prop := fun ds q => ∃ d n b, ds = [d, .ty n] ∧ TyOk K d ∧ PySem.W.kitOne K (tyD d) (.type n) = some b ∧ q (.bl b)
theorem o_isi : OpN K (rIsi K) (gIsi K) := by
  rintro F H xs ds q Q s r ⟨d, n, b, rfl, nt, e, hq⟩ k
  obtain ⟨v, v', rfl, r1, r2⟩ := r.two
  cases r2
  exact ⟨v, .ty n, tyD d, .type n, b, rfl, .ty n, TyX_mono s (r1.tyO nt), e, k _ (.bl b) F H (.refl _ _ _) s (.bl b) hq⟩
def rAbs : List V → Hp → VK → Prop := fun xs H Q => ∃ i, xs = [.int i] ∧ Q (.int (if i < 0 then -i else i)) H
def gAbs : List D → (D → Prop) → Prop := fun ds q => ∃ i, ds = [.int i] ∧ q (.int (if i < 0 then -i else i))
theorem o_abs : OpN K rAbs gAbs := by
  rintro F H xs ds q Q s r ⟨i, rfl, hq⟩ k
  obtain ⟨v, rfl, r1⟩ := r.one
  exact ⟨i, by rw [r1.int_of], k _ _ F H (.refl _ _ _) s (.int _) hq⟩
def gGcd : List D → (D → Prop) → Prop := fun ds q => ∃ i j : Int, ds = [.int i, .int j] ∧ q (.int ((Nat.gcd i.natAbs j.natAbs : Nat) : Int))
theorem o_gcd : OpN K rGcd gGcd := by
  rintro F H xs ds q Q s r ⟨i, j, rfl, hq⟩ k
  obtain ⟨v, v', rfl, r1, r2⟩ := r.two
  exact ⟨i, j, by rw [r1.int_of, r2.int_of], k _ _ F H (.refl _ _ _) s (.int _) hq⟩
def gAll : List D → (D → Prop) → Prop := fun ds q => ∃ (es : List D) (bs : List Bool), (ds = [.lst es] ∨ ds = [.fl es]) ∧ es = bs.map D.bl ∧ q (.bl (bs.all id))
theorem o_all : OpN K (rAll K) gAll := by
  rintro F H xs ds q Q s r ⟨es, bs, e, rfl, hq⟩ k
  rcases e with rfl | rfl
  · obtain ⟨v, rfl, r1⟩ := r.one
    cases r1 with
    | lst h r2 =>
      have := Reps.bls r2
      subst this
      exact ⟨_, bs, rfl, .inl (.inl (s _ _ h)), k _ _ F H (.refl _ _ _) s (.bl _) hq⟩
  · obtain ⟨v, rfl, r1⟩ := r.one
    cases r1 with
    | fl h r2 =>
      have := Reps.bls r2
      subst this
      exact ⟨_, bs, rfl, s.seq h, k _ _ F H (.refl _ _ _) s (.bl _) hq⟩
def rInt1 : List V → Hp → VK → Prop := fun xs H Q => (∃ i, xs = [.int i] ∧ Q (.int i) H) ∨ ∃ k, xs = [.bl k] ∧ Q (.int (if k then 1 else 0)) H
def numD3 : D → Option Int | .int i => some i | .bl k => some (if k then 1 else 0) | _ => none
def gInt1 : List D → (D → Prop) → Prop := fun ds q => ∃ d i, ds = [d] ∧ numD3 d = some i ∧ q (.int i)
theorem o_int1 : OpN K rInt1 gInt1 := by
  rintro F H xs ds q Q s r ⟨d, i, rfl, e, hq⟩ k
  obtain ⟨v, rfl, r1⟩ := r.one
  cases d <;> simp [numD3] at e
  · subst e
    exact .inr ⟨_, by rw [r1.bl_of], k _ _ F H (.refl _ _ _) s (.int _) hq⟩
  · subst e
    exact .inl ⟨_, by rw [r1.int_of], k _ _ F H (.refl _ _ _) s (.int _) hq⟩
def rTupleOf (K : PySem.W.Frag) : List V → Hp → VK → Prop := fun xs H Q => ∃ p ys, xs = [.ref p] ∧ ((SqL K H p ys ∧ ∀ l, H l = none → Q (.ref l) (upd H l (.tup ys))) ∨ (SqT K H p ys ∧ Q (.ref p) H))
def gTupleOf : List D → (D → Prop) → Prop := fun ds q => ∃ d es, ds = [d] ∧ seqD d = some es ∧ q (.tup es)
theorem new_ext {F H : Hp} {p : Addr} {o : HO} (s : Same F H) (h : H p = none) (nt : NT o := by intro ps z; cases z) : Ext [] F H (upd F p o) (upd H p o) ∧ Same (upd F p o) (upd H p o) := by
  refine ⟨Ext.laid s h nt, fun a u e => ?_⟩
  by_cases q : a = p
  · subst q; rw [upd_same] at e ⊢; exact e
  · rw [upd_ne q] at e ⊢; exact s _ _ e
theorem new_none {F H : Hp} {p : Addr} (s : Same F H) (h : H p = none) : F p = none := by
  cases q : F p with
  | none => rfl
  | some u => rw [s _ _ q] at h; cases h
theorem new_same {F H : Hp} {p : Addr} {o : HO} (s : Same F H) (h : H p = none) : Same F (upd F p o) := fun a u e => by
  rw [upd_ne (ne_of_none e (new_none s h))]
  exact e
theorem o_tupleOf : OpN K (rTupleOf K) gTupleOf := by
  rintro F H xs ds q Q s r ⟨d, es, rfl, e, hq⟩ k
  obtain ⟨v, rfl, r1⟩ := r.one
  obtain ⟨a, ys, rfl, h, r2⟩ := r1.seq e
  rcases h with h | h
  · refine ⟨a, ys, rfl, .inl ⟨s.seq h, fun l hl => ?_⟩⟩
    obtain ⟨x1, x2⟩ := new_ext (o := .tup ys) s hl
    exact k _ (.tup es) _ _ x1 x2 (.tup (.inl (.inl upd_same)) (r2.mono (new_same s hl))) hq
  · exact ⟨a, ys, rfl, .inr ⟨SqT_mono s h, k _ (.tup es) F H (.refl _ _ _) s (.tup h r2) hq⟩⟩
def rListOf (K : PySem.W.Frag) : List V → Hp → VK → Prop := fun xs H Q => ∃ p ys, xs = [.ref p] ∧ (SqL K H p ys ∨ SqT K H p ys) ∧ ∀ l, H l = none → Q (.ref l) (upd H l (.lst ys))
def gListOf : List D → (D → Prop) → Prop := fun ds q => ∃ d es, ds = [d] ∧ seqD d = some es ∧ q (.lst es)
theorem o_listOf : OpN K (rListOf K) gListOf := by
  rintro F H xs ds q Q s r ⟨d, es, rfl, e, hq⟩ k
  obtain ⟨v, rfl, r1⟩ := r.one
  obtain ⟨a, ys, rfl, h, r2⟩ := r1.seq e
  refine ⟨a, ys, rfl, h.imp (fun h => s.seq h) (fun h => SqT_mono s h), fun l hl => ?_⟩
  obtain ⟨x1, x2⟩ := new_ext (o := .lst ys) s hl
  exact k _ (.lst es) _ _ x1 x2 (.lst upd_same (r2.mono (new_same s hl))) hq

/-! ### subscripts, displays, slices -/
def gIx : D → D → (D → Prop) → Prop := fun x y q => ∃ es i d, seqD x = some es ∧ y = .int i ∧ atI es i = some d ∧ q d
theorem atI_rep {F : Hp} {xs : List V} {ds : List D} {i : Int} {d : D} (r : Reps K F xs ds) (e : atI ds i = some d) : ∃ v, atI xs i = some v ∧ Rep K F v d := by
  unfold atI at e ⊢
  rw [r.length]
  cases h : ixN ds.length i with
  | none => rw [h] at e; cases e
  | some j =>
    rw [h] at e
    exact r.getD e
theorem o_ix : Op2 K (rIx K) gIx := by
  rintro F H x y d1 d2 q Q s r1 r2 ⟨es, i, d, e, rfl, ei, hq⟩ k
  obtain ⟨a, xs, rfl, h, r3⟩ := r1.seq e
  obtain ⟨v, ev, rv⟩ := atI_rep r3 ei
  have fin : Q v H := k v d F H (.refl _ _ _) s rv hq
  rcases h with h | h
  · exact .inl ⟨a, xs, i, v, rfl, r2.int_of, s.seq h, ev, fin⟩
  · exact .inr (.inl ⟨a, xs, i, v, rfl, r2.int_of, SqT_mono s h, ev, fin⟩)
def wTup (wa : AW) : EW := fun τ q e => wa τ (fun ds τ' => ds.length ≤ 1000 ∧ q (.tup ds) τ') e
theorem de_tup {t : TA} {w : AW} (h : DA K W t w) : DE K W (tTup t) (wTup w) := by
  refine ⟨fun σ H τ F Q q e S hw k x => h.run σ H τ F _ _ e S hw (fun zs ds τ' F' H' t' r' ⟨hl, hq⟩ => ?_) x⟩
  refine ⟨by rw [r'.length]; exact Nat.le_of_lt (small1000 hl), fun p hp => ?_⟩
  obtain ⟨x1, x2⟩ := new_ext (o := .tup zs) t'.ok.sub hp
  exact k _ (.tup ds) τ' _ _ (t'.trans (.small t'.ok x1 x2)) (.tup (.inl (.inl upd_same)) (r'.mono (new_same t'.ok.sub hp))) hq
def wLst (wa : AW) : EW := fun τ q e => wa τ (fun ds τ' => ds.length ≤ 1000 ∧ q (.lst ds) τ') e
theorem de_lst {t : TA} {w : AW} (h : DA K W t w) : DE K W (tLst t) (wLst w) := by
  refine ⟨fun σ H τ F Q q e S hw k x => h.run σ H τ F _ _ e S hw (fun zs ds τ' F' H' t' r' ⟨hl, hq⟩ => ?_) x⟩
  refine ⟨by rw [r'.length]; exact Nat.le_of_lt (small1000 hl), fun p hp => ?_⟩
  obtain ⟨x1, x2⟩ := new_ext (o := .lst zs) t'.ok.sub hp
  exact k _ (.lst ds) τ' _ _ (t'.trans (.small t'.ok x1 x2)) (.lst upd_same (r'.mono (new_same t'.ok.sub hp))) hq
abbrev OW := List Cell → (Option Int → List Cell → Prop) → (Xn → List Cell → Prop) → Prop
structure DO (K : PySem.W.Frag) (W : WX) (t : TO) (w : OW) : Prop where
  run : ∀ σ H τ F Q q e, SOk K F H σ τ → w τ q e → (∀ b τ' F' H', To K F H σ τ F' H' τ' → q b τ' → Q b H') → XTo K W F H σ τ e → t σ H Q
def wNoPart : OW := fun τ q _ => q none τ
def wPart (we : EW) : OW := fun τ q e => we τ (fun d τ' => ∃ i, d = .int i ∧ q (some i) τ') e
theorem do_no : DO K W tNoPart wNoPart := ⟨fun σ H τ F Q q e S hq k _ => k none τ F H (.refl S) hq⟩
theorem do_part {t : TE} {w : EW} (h : DE K W t w) : DO K W (tPart t) (wPart w) := by
  refine ⟨fun σ H τ F Q q e S hw k x => h.run σ H τ F _ _ e S hw (fun z d τ' F' H' t' r ⟨i, ei, hq⟩ => ?_) x⟩
  subst ei
  exact ⟨i, r.int_of, k _ τ' F' H' t' hq⟩
def cutDs {α : Type} (xs : List α) (lo hi : Option Int) : List α := (xs.drop (HT.sIx xs.length 0 lo)).take (HT.sIx xs.length xs.length hi - HT.sIx xs.length 0 lo)
theorem cut_rep {F : Hp} {xs : List V} {ds : List D} {lo hi : Option Int} (r : Reps K F xs ds) : Reps K F (cutV xs lo hi) (cutDs ds lo hi) := by
  unfold cutV cutDs
  rw [r.length]
  exact (r.drop _).take _
/-- a slice of a tuple (the whole of it is the tuple itself) or of a list -/
def rSlA (K : PySem.W.Frag) : V → Option Int → Option Int → Hp → VK → Prop := fun x lo hi H Q => rSlT K x lo hi H Q ∨ rSlL K x lo hi H Q
def wSlT (we : EW) (wl wh : OW) : EW := fun τ q e => we τ (fun d τ1 => wl τ1 (fun lo τ2 => wh τ2 (fun hi τ3 => ∃ es, d = .tup es ∧ ¬ (HT.sIx es.length 0 lo = 0 ∧ HT.sIx es.length es.length hi = es.length) ∧ q (.tup (cutDs es lo hi)) τ3) e) e) e
theorem de_slT {t : TE} {tl th : TO} {w : EW} {wl wh : OW} (h : DE K W t w) (hl : DO K W tl wl) (hh : DO K W th wh) : DE K W (tSl (rSlT K) t tl th) (wSlT w wl wh) := by
  refine ⟨fun σ H τ F Q q e S hw k x => h.run σ H τ F _ _ e S hw (fun z d τ1 F1 H1 t1 r1 h1 => ?_) x⟩
  refine hl.run σ H1 τ1 F1 _ _ e t1.ok h1 (fun lo τ2 F2 H2 t2 h2 => ?_) (x.of t1)
  refine hh.run σ H2 τ2 F2 _ _ e t2.ok h2 (fun hi τ3 F3 H3 t3 h3 => ?_) (x.of (t1.trans t2))
  obtain ⟨es, rfl, hn, hq⟩ := h3
  have r3 := (r1.mono t2.ext.f).mono t3.ext.f
  cases r3 with
  | @tup a xs _ hs r =>
    refine ⟨a, xs, rfl, SqT_mono t3.ok.sub hs, by rw [r.length]; exact hn, fun p hp => ?_⟩
    obtain ⟨x1, x2⟩ := new_ext (o := .tup (cutV xs lo hi)) t3.ok.sub hp
    exact k _ (.tup (cutDs es lo hi)) τ3 _ _ (((t1.trans t2).trans t3).trans (.small t3.ok x1 x2)) (.tup (.inl (.inl upd_same)) ((cut_rep r).mono (new_same t3.ok.sub hp))) hq
def wSlL (we : EW) (wl wh : OW) : EW := fun τ q e => we τ (fun d τ1 => wl τ1 (fun lo τ2 => wh τ2 (fun hi τ3 => ∃ es, (d = .lst es ∨ d = .fl es) ∧ q (.lst (cutDs es lo hi)) τ3) e) e) e
theorem de_slL {t : TE} {tl th : TO} {w : EW} {wl wh : OW} (h : DE K W t w) (hl : DO K W tl wl) (hh : DO K W th wh) : DE K W (tSl (rSlL K) t tl th) (wSlL w wl wh) := by
  refine ⟨fun σ H τ F Q q e S hw k x => h.run σ H τ F _ _ e S hw (fun z d τ1 F1 H1 t1 r1 h1 => ?_) x⟩
  refine hl.run σ H1 τ1 F1 _ _ e t1.ok h1 (fun lo τ2 F2 H2 t2 h2 => ?_) (x.of t1)
  refine hh.run σ H2 τ2 F2 _ _ e t2.ok h2 (fun hi τ3 F3 H3 t3 h3 => ?_) (x.of (t1.trans t2))
  obtain ⟨es, ed, hq⟩ := h3
  have r3 := (r1.mono t2.ext.f).mono t3.ext.f
  have : ∃ a xs, z = .ref a ∧ SqL K F3 a xs ∧ Reps K F3 xs es := by
    rcases ed with rfl | rfl
    · cases r3 with
      | lst h r => exact ⟨_, _, rfl, .inl (.inl h), r⟩
    · cases r3 with
      | fl h r => exact ⟨_, _, rfl, h, r⟩
  obtain ⟨a, xs, rfl, hs, r⟩ := this
  refine ⟨a, xs, rfl, t3.ok.sub.seq hs, fun p hp => ?_⟩
  obtain ⟨x1, x2⟩ := new_ext (o := .lst (cutV xs lo hi)) t3.ok.sub hp
  exact k _ (.lst (cutDs es lo hi)) τ3 _ _ (((t1.trans t2).trans t3).trans (.small t3.ok x1 x2)) (.lst upd_same ((cut_rep r).mono (new_same t3.ok.sub hp))) hq
/-- t + u -/
def gCatT : D → D → (D → Prop) → Prop := fun x y q => ∃ as bs, x = .tup as ∧ y = .tup bs ∧ as ≠ [] ∧ as.length + bs.length ≤ 1000 ∧ q (.tup (as ++ bs))
/-- xs + ys -/
def gCat : D → D → (D → Prop) → Prop := fun x y q => ∃ as bs, x = .lst as ∧ y = .lst bs ∧ as.length + bs.length ≤ 1000 ∧ q (.lst (as ++ bs))
theorem o_cat : Op2 K rCat gCat := by
  rintro F H x y d1 d2 q Q s r1 r2 ⟨as, bs, rfl, rfl, hl, hq⟩ k
  cases r1 with
  | @lst a xs _ h1 r1 =>
    cases r2 with
    | @lst b ys _ h2 r2 =>
      refine ⟨a, b, xs, ys, rfl, rfl, s _ _ h1, s _ _ h2, by rw [r1.length, r2.length]; exact Nat.le_of_lt (small1000 hl), fun p hp => ?_⟩
      obtain ⟨x1, x2⟩ := new_ext (o := .lst (xs ++ ys)) s hp
      exact k _ (.lst (as ++ bs)) _ _ x1 x2 (.lst upd_same ((r1.append r2).mono (new_same s hp))) hq
end
end L3

/-! ## what is walked, targets, comprehensions -/
namespace L3
open PySem PySem.Spec PyProof.Rows L2
variable [TB : TabT]

/-- a list or a tuple that is walked -/
def iSeq (K : PySem.W.Frag) (tl : TE) : TI := fun σ H R => tl σ H fun x H1 => ∃ a, x = .ref a ∧ (((∃ xs, SqL K H1 a xs) ∧ R (Itl K a) H1) ∨ ((∃ xs, SqT K H1 a xs) ∧ R (Itt K a) H1))
theorem pi_seq {X : Cx} {tg l : Expr} {tl : TE} (hl : PE X l tl) : PI X tg l (iSeq X.K tl) := by
  refine ⟨fun pins st σ H R J hh => ?_⟩
  refine thn (hl.run pins st σ H _ J hh) fun val st1 ⟨y, G, J1, rel, way⟩ => ?_
  obtain ⟨adr, hy, way⟩ := way
  subst hy
  cases rel
  have kept : ∀ ob : Obj, Inv X pins σ G { st1 with heap := st1.heap.push ob } := fun ob => J1.kept (t' := st1.toks) fun c u q => Heap.get?_push_of_some _ q
  have fresh : ∀ c ∈ [st1.heap.objs.size], FpOk X pins G c := fun c hc => by
    obtain rfl : c = st1.heap.objs.size := by simpa using hc
    exact J1.fpOk (Nat.le_refl _) (J1.hok.fresh (Nat.le_refl _))
  rcases way with ⟨⟨ys, hq⟩, q⟩ | ⟨⟨ys, hq⟩, q⟩
  · obtain ⟨its, rv, at_, _⟩ := J1.list hq
    exact wpAny_pyIter_list at_.isList ⟨st1.heap.objs.size, [st1.heap.objs.size], _, _, G, rfl, kept _, turn_list adr _, ⟨_, Heap.get?_push_size _ rfl, rfl, rfl⟩, fresh, q⟩
  · obtain ⟨its, rv, at_, _⟩ := J1.tuple hq
    exact wpAny_pyIter_tuple at_ ⟨st1.heap.objs.size, [st1.heap.objs.size], _, _, G, rfl, kept _, turn_tuple adr _, ⟨_, Heap.get?_push_size _ rfl, rfl, rfl⟩, fresh, q⟩

structure ItOk (K : PySem.W.Frag) (F : Hp) (J : It) (ds : List D) : Prop where
  go : ∀ i F2 H, Same F F2 → Same F2 H → i < ds.length → J.go i H
  stop : ∀ F2 H, Same F F2 → Same F2 H → J.stop ds.length H
  yld : ∀ i F2 H x H', Same F F2 → Same F2 H → i < ds.length → J.yld i H x H' → ∃ d F3, ds[i]? = some d ∧ Ext [] F2 H F3 H' ∧ Same F3 H' ∧ Rep K F3 x d
abbrev IW := List Cell → (List D → List Cell → Prop) → (Xn → List Cell → Prop) → Prop
structure DI (K : PySem.W.Frag) (W : WX) (t : TI) (w : IW) : Prop where
  run : ∀ σ H τ F R q e, SOk K F H σ τ → w τ q e → (∀ J ds τ' F' H', To K F H σ τ F' H' τ' → ItOk K F' J ds → q ds τ' → R J H') → XTo K W F H σ τ e → t σ H R
section
variable {K : PySem.W.Frag} {W : WX}
theorem it_list {F : Hp} {a : Addr} {xs : List V} {ds : List D} (h : SqL K F a xs) (r : Reps K F xs ds) : ItOk K F (Itl K a) ds := by
  refine ⟨fun i F2 H s s2 hi => ?_, fun F2 H s s2 => ⟨xs, s2.seq (s.seq h), by rw [r.length]; exact Nat.le_refl _⟩, fun i F2 H x H' s s2 hi y => ?_⟩
  · rw [← r.length] at hi
    exact ⟨xs, xs[i], s2.seq (s.seq h), List.getElem?_eq_getElem hi⟩
  · obtain ⟨rfl, e⟩ := y
    obtain ⟨d, e1, e2⟩ := (r.mono s).get (e xs (s2.seq (s.seq h)))
    exact ⟨d, F2, e1, .refl _ _ _, s2, e2⟩
theorem it_tup {F : Hp} {a : Addr} {xs : List V} {ds : List D} (h : SqT K F a xs) (r : Reps K F xs ds) : ItOk K F (Itt K a) ds := by
  refine ⟨fun i F2 H s s2 hi => ?_, fun F2 H s s2 => ⟨xs, SqT_mono s2 (SqT_mono s h), by rw [r.length]; exact Nat.le_refl _⟩, fun i F2 H x H' s s2 hi y => ?_⟩
  · rw [← r.length] at hi
    exact ⟨xs, xs[i], SqT_mono s2 (SqT_mono s h), List.getElem?_eq_getElem hi⟩
  · obtain ⟨rfl, e⟩ := y
    obtain ⟨d, e1, e2⟩ := (r.mono s).get (e xs (SqT_mono s2 (SqT_mono s h)))
    exact ⟨d, F2, e1, .refl _ _ _, s2, e2⟩
def rangeD (lo : Int) (n : Nat) : List D := (List.range n).map fun i => .int (lo + (i : Nat))
theorem rangeD_length {lo : Int} {n : Nat} : (rangeD lo n).length = n := by unfold rangeD; rw [List.length_map, List.length_range]
theorem rangeD_get {lo : Int} {n i : Nat} (h : i < n) : (rangeD lo n)[i]? = some (.int (lo + (i : Nat))) := by
  unfold rangeD
  rw [List.getElem?_map, List.getElem?_range h]
  rfl
theorem it_range {F : Hp} {lo : Int} {n : Nat} : ItOk K F (Itr lo n) (rangeD lo n) := by
  refine ⟨fun i F2 H s s2 hi => ?_, fun F2 H s s2 => ?_, fun i F2 H x H' s s2 hi y => ?_⟩
  · rw [rangeD_length] at hi; exact hi
  · rw [rangeD_length]; exact Nat.le_refl n
  · rw [rangeD_length] at hi
    obtain ⟨rfl, rfl⟩ := y
    exact ⟨_, F2, rangeD_get hi, .refl _ _ _, s2, .int _⟩
def wSeq (we : EW) : IW := fun τ q e => we τ (fun d τ' => ∃ es, seqD d = some es ∧ q es τ') e
theorem di_seq {t : TE} {w : EW} (h : DE K W t w) : DI K W (iSeq K t) (wSeq w) := by
  refine ⟨fun σ H τ F R q e S hw k x => h.run σ H τ F _ _ e S hw (fun v d τ' F' H' t' r ⟨es, ee, hq⟩ => ?_) x⟩
  obtain ⟨a, xs, rfl, hs, r2⟩ := r.seq ee
  rcases hs with hs | hs
  · exact ⟨a, rfl, .inl ⟨⟨xs, t'.ok.sub.seq hs⟩, k _ es τ' F' H' t' (it_list hs r2) hq⟩⟩
  · exact ⟨a, rfl, .inr ⟨⟨xs, SqT_mono t'.ok.sub hs⟩, k _ es τ' F' H' t' (it_tup hs r2) hq⟩⟩
def wRng1 (wa : AW) : IW := fun τ q e => wa τ (fun ds τ' => ∃ j : Int, ds = [.int j] ∧ -(2 ^ 62) ≤ j ∧ j < 2 ^ 62 ∧ q (rangeD 0 j.toNat) τ') e
theorem di_rng1 {t : TA} {w : AW} (h : DA K W t w) : DI K W (iRng1 t) (wRng1 w) := by
  refine ⟨fun σ H τ F R q e S hw k x => h.run σ H τ F _ _ e S hw (fun vs ds τ' F' H' t' r ⟨j, ej, h1, h2, hq⟩ => ?_) x⟩
  subst ej
  obtain ⟨v, rfl, r1⟩ := r.one
  exact ⟨j, by rw [r1.int_of], h1, h2, k _ _ τ' F' H' t' it_range hq⟩
def wRng2 (wa : AW) : IW := fun τ q e => wa τ (fun ds τ' => ∃ i j : Int, ds = [.int i, .int j] ∧ (-(2 ^ 62) ≤ i ∧ i < 2 ^ 62 ∧ -(2 ^ 62) ≤ j ∧ j < 2 ^ 62) ∧ q (rangeD i (j - i).toNat) τ') e
theorem di_rng2 {t : TA} {w : AW} (h : DA K W t w) : DI K W (iRng2 t) (wRng2 w) := by
  refine ⟨fun σ H τ F R q e S hw k x => h.run σ H τ F _ _ e S hw (fun vs ds τ' F' H' t' r ⟨i, j, ej, h1, hq⟩ => ?_) x⟩
  subst ej
  obtain ⟨v, v', rfl, r1, r2⟩ := r.two
  exact ⟨i, j, by rw [r1.int_of, r2.int_of], h1, k _ _ τ' F' H' t' it_range hq⟩
def zipD (xs ys : List D) : List D := List.zipWith (fun x y => .tup [x, y]) xs ys
theorem zip_get {xs ys : List D} {i : Nat} (h : i < (zipD xs ys).length) : ∃ x y, xs[i]? = some x ∧ ys[i]? = some y ∧ (zipD xs ys)[i]? = some (.tup [x, y]) := by
  have h' : i < min xs.length ys.length := by unfold zipD at h; rw [List.length_zipWith] at h; exact h
  have h1 : i < xs.length := by omega
  have h2 : i < ys.length := by omega
  refine ⟨xs[i], ys[i], List.getElem?_eq_getElem h1, List.getElem?_eq_getElem h2, ?_⟩
  unfold zipD
  rw [List.getElem?_zipWith, List.getElem?_eq_getElem h1, List.getElem?_eq_getElem h2]
theorem same_upd {H : Hp} {p : Addr} {o : HO} (h : H p = none) : Same H (upd H p o) := fun b x e => by
  rw [upd_ne (ne_of_none e h)]
  exact e
theorem it_zip {F : Hp} {J : It} {xs ys : List V} {ds es : List D} (r : Reps K F xs ds) (r' : Reps K F ys es) (hgo : ∀ i H x y, Same F H → xs[i]? = some x → ys[i]? = some y → J.go i H)
    (hst : ∀ i H, Same F H → (xs.length ≤ i ∨ ys.length ≤ i) → J.stop i H)
    (hy : ∀ i H v H', Same F H → J.yld i H v H' → ∃ T x y, v = .ref T ∧ H T = none ∧ H' = upd H T (.tup [x, y]) ∧ xs[i]? = some x ∧ ys[i]? = some y) : ItOk K F J (zipD ds es) := by
  refine ⟨fun i F2 H s s2 hi => ?_, fun F2 H s s2 => ?_, fun i F2 H x H' s s2 hi y => ?_⟩
  · obtain ⟨x, y, e1, e2, _⟩ := zip_get hi
    obtain ⟨v, h1, _⟩ := r.getD e1
    obtain ⟨u, h2, _⟩ := r'.getD e2
    exact hgo i H v u (s.trans s2) h1 h2
  · refine hst _ H (s.trans s2) ?_
    unfold zipD
    rw [List.length_zipWith, r.length, r'.length]
    omega
  · obtain ⟨T, u, v, rfl, hT, rfl, e1, e2⟩ := hy i H x H' (s.trans s2) y
    obtain ⟨a, b, f1, f2, f3⟩ := zip_get hi
    obtain ⟨a', g1, g2⟩ := (r.mono s).get e1
    obtain ⟨b', g3, g4⟩ := (r'.mono s).get e2
    rw [f1] at g1; cases g1
    rw [f2] at g3; cases g3
    obtain ⟨x1, x2⟩ := new_ext (o := .tup [u, v]) s2 hT
    have sm := new_same (o := .tup [u, v]) s2 hT
    exact ⟨_, _, f3, x1, x2, .tup (.inl (.inl upd_same)) (.cons (g2.mono sm) (.cons (g4.mono sm) .nil))⟩
def wZip (wa : AW) : IW := fun τ q e => wa τ (fun ds τ' => ∃ xs ys, (ds = [.tup xs, .tup ys] ∨ ds = [.lst xs, .lst ys] ∨ ds = [.fl xs, .lst ys] ∨ ds = [.lst xs, .fl ys]) ∧ q (zipD xs ys) τ') e
theorem SqT.inj' {F H : Hp} {a : Addr} {xs ys : List V} (h : SqT K F a xs) : True := trivial
theorem di_zip {t : TA} {w : AW} (h : DA K W t w) : DI K W (RZ.iZipA K t) (wZip w) := by
  refine ⟨fun σ H τ F R q e S hw k x => h.run σ H τ F _ _ e S hw (fun vs ds τ' F' H' t' r ⟨xs, ys, ej, hq⟩ => ?_) x⟩
  have lst : ∀ {d1 d2 : D}, ds = [d1, d2] → seqD d1 = some xs → seqD d2 = some ys → (∀ z : List D, d1 ≠ .tup z) → (∀ z : List D, d2 ≠ .tup z) →
      ∃ a b us vs', vs = [.ref a, .ref b] ∧ SqL K F' a us ∧ SqL K F' b vs' ∧ Reps K F' us xs ∧ Reps K F' vs' ys := by
    rintro d1 d2 rfl e1 e2 n1 n2
    obtain ⟨v, v', rfl, r1, r2⟩ := r.two
    have key : ∀ {v : V} {d : D} {zs : List D}, Rep K F' v d → seqD d = some zs → (∀ z : List D, d ≠ .tup z) → ∃ a us, v = .ref a ∧ SqL K F' a us ∧ Reps K F' us zs := by
      intro v d zs r e n
      cases r with
      | tup h r => exact absurd rfl (n _)
      | lst h r => cases e; exact ⟨_, _, rfl, .inl (.inl h), r⟩
      | fl h r => cases e; exact ⟨_, _, rfl, h, r⟩
      | _ => cases e
    obtain ⟨a, us, rfl, h1, h2⟩ := key r1 e1 n1
    obtain ⟨b, ws, rfl, h3, h4⟩ := key r2 e2 n2
    exact ⟨a, b, us, ws, rfl, h1, h3, h2, h4⟩
  have finL : (∃ a b us vs', vs = [.ref a, .ref b] ∧ SqL K F' a us ∧ SqL K F' b vs' ∧ Reps K F' us xs ∧ Reps K F' vs' ys) → RZ.iZipA K (fun _ H Q => Q vs H) σ H' R := by
    rintro ⟨a, b, us, ws, rfl, h1, h3, h2, h4⟩
    refine ⟨a, b, us, ws, rfl, .inl ⟨t'.ok.sub.seq h1, t'.ok.sub.seq h3, k _ _ τ' F' H' t' (it_zip h2 h4 ?_ ?_ ?_) hq⟩⟩
    · exact fun i H x y s e1 e2 => ⟨us, ws, x, y, s.seq h1, s.seq h3, e1, e2⟩
    · exact fun i H s e => ⟨us, ws, s.seq h1, s.seq h3, e⟩
    · rintro i H v H' s ⟨T, x, y, rfl, hT, rfl, e1, e2⟩
      exact ⟨T, x, y, rfl, hT, rfl, e1 _ (s.seq h1), e2 _ (s.seq h3)⟩
  rcases ej with rfl | rfl | rfl | rfl
  · obtain ⟨v, v', rfl, r1, r2⟩ := r.two
    cases r1 with
    | @tup a us _ h1 h2 =>
      cases r2 with
      | @tup b ws _ h3 h4 =>
        refine ⟨a, b, us, ws, rfl, .inr ⟨SqT_mono t'.ok.sub h1, SqT_mono t'.ok.sub h3, k _ _ τ' F' H' t' (it_zip h2 h4 ?_ ?_ ?_) hq⟩⟩
        · exact fun i H x y s e1 e2 => ⟨us, ws, x, y, SqT_mono s h1, SqT_mono s h3, e1, e2⟩
        · exact fun i H s e => ⟨us, ws, SqT_mono s h1, SqT_mono s h3, e⟩
        · rintro i H v H' s ⟨T, x, y, rfl, hT, rfl, e1, e2⟩
          exact ⟨T, x, y, rfl, hT, rfl, e1 _ (SqT_mono s h1), e2 _ (SqT_mono s h3)⟩
  · exact finL (lst rfl rfl rfl (fun z e => by cases e) (fun z e => by cases e))
  · exact finL (lst rfl rfl rfl (fun z e => by cases e) (fun z e => by cases e))
  · exact finL (lst rfl rfl rfl (fun z e => by cases e) (fun z e => by cases e))

/-! ### targets -/
abbrev GW := D → List Cell → (List Cell → Prop) → Prop
abbrev GsW := List D → List Cell → (List Cell → Prop) → Prop
structure DG (K : PySem.W.Frag) (vs : List Nat) (g : TG) (w : GW) : Prop where
  run : ∀ σ H τ F v d Q q, SOk K F H σ τ → Rep K F v d → w d τ q → (∀ σ' τ', SOk K F H σ' τ' → (∀ p, IsOwn τ' p → IsOwn τ p) → (∀ j, j ∉ vs → σ'[j]? = σ[j]?) → σ'.length = σ.length → q τ' → Q σ' H) → g v σ H Q
structure DGs (K : PySem.W.Frag) (vs : List Nat) (g : TGs) (w : GsW) : Prop where
  run : ∀ σ H τ F us ds Q q, SOk K F H σ τ → Reps K F us ds → w ds τ q → (∀ σ' τ', SOk K F H σ' τ' → (∀ p, IsOwn τ' p → IsOwn τ p) → (∀ j, j ∉ vs → σ'[j]? = σ[j]?) → σ'.length = σ.length → q τ' → Q σ' H) → g us σ H Q
theorem SOk.set {F H : Hp} {σ : L2.St} {τ : List Cell} {i : Nat} {v : V} {d : D} (S : SOk K F H σ τ) (r : Rep K F v d) : SOk K F H (σ.set i (some v)) (τ.set i (.dat d)) := by
  refine ⟨S.tabs, S.sub, by rw [List.length_set, List.length_set, S.len], fun j s c h1 h2 => ?_, fun j c h => ?_, S.inj.set fun a z => z.elim⟩
  rotate_left
  · rcases set_get h with ⟨_, rfl, _⟩ | ⟨_, h⟩
    · exact trivial
    · exact S.own j c h
  by_cases e : i = j
  · subst e
    by_cases hl : i < σ.length
    · rw [List.getElem?_set_self hl] at h1
      rw [List.getElem?_set_self (by rw [← S.len]; exact hl)] at h2
      cases h1; cases h2
      exact ⟨v, rfl, r⟩
    · rw [List.getElem?_eq_none (by rw [List.length_set]; exact Nat.le_of_not_lt hl)] at h1
      cases h1
  · rw [List.getElem?_set_ne e] at h1 h2
    exact S.slot j s c h1 h2
def wName (i : Nat) : GW := fun d τ q => q (τ.set i (.dat d))
theorem dg_name (i : Nat) : DG K [i] (gName i) (wName i) := by
  refine ⟨fun σ H τ F v d Q q S r hw k => ?_⟩
  refine k (σ.set i (some v)) (τ.set i (.dat d)) (S.set r) (fun p h => isOwn_set (c := .dat d) (fun a z => z) h) (fun j hj => ?_) (List.length_set ..) hw
  rw [List.getElem?_set_ne (fun z => hj (by rw [z]; exact List.mem_cons_self ..))]
def wNilT : GsW := fun ds τ q => ds = [] ∧ q τ
def wConsT (w : GW) (u : GsW) : GsW := fun ds τ q => ∃ d r, ds = d :: r ∧ w d τ fun τ' => u r τ' q
theorem dgs_nil : DGs K [] gNil wNilT := by
  refine ⟨fun σ H τ F us ds Q q S r ⟨e, hq⟩ k => ?_⟩
  subst e
  cases r
  exact ⟨rfl, k σ τ S (fun _ h => h) (fun _ _ => rfl) rfl hq⟩
theorem dgs_cons {vs ws : List Nat} {g : TG} {u : TGs} {w : GW} {wu : GsW} (h : DG K vs g w) (h' : DGs K ws u wu) : DGs K (vs ++ ws) (gCons g u) (wConsT w wu) := by
  refine ⟨fun σ H τ F us ds Q q S r hw k => ?_⟩
  obtain ⟨d, rs, rfl, hw⟩ := hw
  cases r with
  | @cons v vs' _ _ r1 r2 =>
    refine ⟨v, vs', rfl, ?_⟩
    refine h.run σ H τ F v d _ _ S r1 hw fun σ1 τ1 S1 o1 a1 l1 hw1 => ?_
    refine h'.run σ1 H τ1 F vs' rs _ _ S1 r2 hw1 fun σ2 τ2 S2 o2 a2 l2 hq => ?_
    refine k σ2 τ2 S2 (fun p hp => o1 p (o2 p hp)) (fun j hj => ?_) (l2.trans l1) hq
    rw [List.mem_append, not_or] at hj
    exact (a2 j hj.2).trans (a1 j hj.1)
def wTupT (n : Nat) (w : GsW) : GW := fun d τ q => ∃ ds, d = .tup ds ∧ ds.length = n ∧ w ds τ q
theorem dg_tup {vs : List Nat} {n : Nat} {g : TGs} {w : GsW} (h : DGs K vs g w) : DG K vs (gTup K n g) (wTupT n w) := by
  refine ⟨fun σ H τ F v d Q q S r hw k => ?_⟩
  obtain ⟨ds, rfl, hn, hw⟩ := hw
  cases r with
  | @tup a xs _ hs r =>
    exact ⟨a, xs, rfl, SqT_mono S.sub hs, by rw [r.length]; exact hn, h.run σ H τ F xs ds _ _ S r hw k⟩

/-! ### comprehensions -/
theorem wipe_get : ∀ (vs : List Nat) (σ : L2.St) (j : Nat), (wipe σ vs)[j]? = if j ∈ vs ∧ j < σ.length then some none else σ[j]?
  | [], σ, j => by unfold wipe; simp
  | v :: vs, σ, j => by
    unfold wipe
    by_cases e : v = j
    · subst e
      by_cases hl : v < σ.length
      · rw [List.getElem?_set_self (by rw [wipe_length]; exact hl), if_pos ⟨List.mem_cons_self .., hl⟩]
      · rw [List.getElem?_eq_none (by rw [List.length_set, wipe_length]; exact Nat.le_of_not_lt hl), if_neg (fun z => hl z.2), List.getElem?_eq_none (Nat.le_of_not_lt hl)]
    · rw [List.getElem?_set_ne e, wipe_get vs σ j]
      have : (j ∈ v :: vs) ↔ j ∈ vs := by
        rw [List.mem_cons]
        exact ⟨fun h => h.elim (fun z => absurd z.symm e) id, .inr⟩
      simp only [this]
def wipeD (τ : List Cell) : List Nat → List Cell
  | [] => τ
  | v :: vs => (wipeD τ vs).set v .any
theorem wipeD_length (τ : List Cell) : ∀ vs : List Nat, (wipeD τ vs).length = τ.length
  | [] => rfl
  | v :: vs => by unfold wipeD; rw [List.length_set, wipeD_length τ vs]
theorem wipeD_get : ∀ (vs : List Nat) (τ : List Cell) (j : Nat), (wipeD τ vs)[j]? = if j ∈ vs ∧ j < τ.length then some .any else τ[j]?
  | [], σ, j => by unfold wipeD; simp
  | v :: vs, σ, j => by
    unfold wipeD
    by_cases e : v = j
    · subst e
      by_cases hl : v < σ.length
      · rw [List.getElem?_set_self (by rw [wipeD_length]; exact hl), if_pos ⟨List.mem_cons_self .., hl⟩]
      · rw [List.getElem?_eq_none (by rw [List.length_set, wipeD_length]; exact Nat.le_of_not_lt hl), if_neg (fun z => hl z.2), List.getElem?_eq_none (Nat.le_of_not_lt hl)]
    · rw [List.getElem?_set_ne e, wipeD_get vs σ j]
      have : (j ∈ v :: vs) ↔ j ∈ vs := by
        rw [List.mem_cons]
        exact ⟨fun h => h.elim (fun z => absurd z.symm e) id, .inr⟩
      simp only [this]
theorem wipeD_own {τ : List Cell} {vs : List Nat} {j : Nat} {c : Cell} (h : (wipeD τ vs)[j]? = some c) : c = .any ∨ (τ[j]? = some c ∧ j ∉ vs) := by
  rw [wipeD_get] at h
  split at h
  · cases h; exact .inl rfl
  · rename_i n
    exact .inr ⟨h, fun hj => n ⟨hj, (List.getElem?_eq_some_iff.mp h).1⟩⟩
theorem wipeD_has {τ : List Cell} {vs : List Nat} {j : Nat} {c : Cell} {a : Addr} (h : (wipeD τ vs)[j]? = some c) (f : Has c a) : τ[j]? = some c := by
  rcases wipeD_own h with rfl | h
  · exact f.elim
  · exact h.1
/-- slots are forgotten; the values there may be any -/
theorem SOk.wiped {F H : Hp} {σ σ' : L2.St} {τ : List Cell} {vs : List Nat} (S : SOk K F H σ τ) (hl : σ'.length = σ.length) (h : ∀ j, j ∉ vs → σ'[j]? = σ[j]?) : SOk K F H σ' (wipeD τ vs) := by
  refine ⟨S.tabs, S.sub, by rw [hl, S.len, wipeD_length], fun j s c h1 h2 => ?_, fun j c e => ?_, fun j k c d a e1 e2 f1 f2 => S.inj j k c d a (wipeD_has e1 f1) (wipeD_has e2 f2) f1 f2⟩
  rotate_left
  · rcases wipeD_own e with rfl | e
    · exact trivial
    · exact S.own j c e.1
  rw [wipeD_get] at h2
  split at h2
  · cases h2; exact trivial
  · rename_i n
    have hj : j ∉ vs := fun hj => n ⟨hj, (List.getElem?_eq_some_iff.mp h2).1⟩
    rw [h j hj] at h1
    exact S.slot j s c h1 h2
theorem wipe_ne {σ : L2.St} {vs : List Nat} {j : Nat} (h : j ∉ vs) : (wipe σ vs)[j]? = σ[j]? := by
  rw [wipe_get, if_neg (fun z => h z.1)]
theorem wipe_eq {σ σ2 : L2.St} {vs ws : List Nat} (hs : ∀ j ∈ ws, j ∈ vs) (hl : σ2.length = (wipe σ vs).length) (h : ∀ j, j ∉ ws → σ2[j]? = (wipe σ vs)[j]?) : wipe σ2 vs = wipe σ vs := by
  apply List.ext_getElem?
  intro j
  rw [wipe_get vs σ2, wipe_get vs σ]
  rw [wipe_length] at hl
  rw [hl]
  by_cases hj : j ∈ vs ∧ j < σ.length
  · rw [if_pos hj, if_pos hj]
  · rw [if_neg hj, if_neg hj]
    by_cases hw : j ∈ ws
    · have hn : ¬ j < σ.length := fun z => hj ⟨hs j hw, z⟩
      rw [List.getElem?_eq_none (by omega), List.getElem?_eq_none (by omega)]
    · rw [h j hw, wipe_get, if_neg hj]
/-- a thing that is no data and not own is changed -/
theorem To.touch {F H F1 H1 : Hp} {σ : L2.St} {τ τ1 : List Cell} {p : Addr} {o : HO} (t : To K F H σ τ F1 H1 τ1) (h : Fr H p) (h1 : F1 p = none) (n : ¬ IsOwn τ1 p) (ht : LamX.Tabs TB.T H1 → LamX.Tabs TB.T (upd H1 p o)) : To K F H σ τ F1 (upd H1 p o) τ1 := by
  have nt1 : LamX.Tabs TB.T H1 → LamX.Tabs TB.T (upd H1 p o) := ht
  refine ⟨⟨t.ext.f, t.ext.new, fun a u e z nt => ?_, fun a e => ?_, fun z => ⟨nt1 (t.ext.tabs z).1, (t.ext.tabs z).2⟩⟩, t.grow, ⟨⟨nt1 t.ok.tabs.1, t.ok.tabs.2⟩, fun a u e => ?_, t.ok.len, t.ok.slot, fun i c e => (t.ok.own i c e).move (Same.refl _) fun a f => ?_, t.ok.inj⟩⟩
  · rw [upd_ne (fr_ne e nt h)]
    exact t.ext.keep a u e z nt
  · by_cases q : a = p
    · subst q; exact h
    · exact t.ext.there a fun o' e' => e o' (by rw [upd_ne q]; exact e')
  · rw [upd_ne (ne_of_none e h1)]
    exact t.ok.sub a u e
  · refine ⟨((t.ok.own i c e).has f).1, fun u hu _ => ?_⟩
    rw [upd_ne (fun z => n ⟨i, c, e, by rw [← z]; exact f⟩)]
    exact hu
/-- .. becomes data -/
theorem To.freeze {F H F1 H1 : Hp} {σ : L2.St} {τ τ1 : List Cell} {p : Addr} {o : HO} (t : To K F H σ τ F1 H1 τ1) (h : Fr H p) (h1 : F1 p = none) (h2 : H1 p = some o) (n : ¬ IsOwn τ1 p) (nt : NT o := by intro ps z; cases z) : To K F H σ τ (upd F1 p o) H1 τ1 := by
  have s : Same F1 (upd F1 p o) := same_upd h1
  refine ⟨⟨t.ext.f.trans s, fun a u e => ?_, t.ext.keep, t.ext.there, fun z => ⟨(t.ext.tabs z).1, nt_upd nt (t.ext.tabs z).2⟩⟩, t.grow, ⟨⟨t.ok.tabs.1, nt_upd nt t.ok.tabs.2⟩, fun a u e => ?_, t.ok.len, fun i v c e1 e2 => (t.ok.slot i v c e1 e2).mono s, fun i c e => (t.ok.own i c e).move s fun a f => ⟨?_, fun u hu _ => hu⟩, t.ok.inj⟩⟩
  · by_cases q : a = p
    · subst q; exact .inr (.inl h)
    · rw [upd_ne q] at e; exact t.ext.new a u e
  · by_cases q : a = p
    · subst q; rw [upd_same] at e; rw [h2]; exact e
    · rw [upd_ne q] at e; exact t.ok.sub a u e
  · rw [upd_ne (fun z => n ⟨i, c, e, by rw [← z]; exact f⟩)]
    exact ((t.ok.own i c e).has f).1
theorem To.at {F H F1 H1 : Hp} {σ σ' : L2.St} {τ τ1 τ2 : List Cell} (t : To K F H σ τ F1 H1 τ1) (S : SOk K F1 H1 σ' τ2) (o : ∀ p, IsOwn τ2 p → IsOwn τ1 p) : To K F H σ' τ F1 H1 τ2 := ⟨t.ext, fun p h => t.grow p (o p h), S⟩
theorem To.not_own {F H F1 H1 : Hp} {σ : L2.St} {τ τ1 : List Cell} (t : To K F H σ τ F1 H1 τ1) {p : Addr} {o : HO} (n : ¬ IsOwn τ p) (h : H p = some o) (nt : NT o := by intro ps z; cases z) : ¬ IsOwn τ1 p := fun z => by
  rcases t.grow p z with z | z
  · exact n z
  · exact z _ h nt
theorem To.not_data {F H F1 H1 : Hp} {σ : L2.St} {τ τ1 : List Cell} (t : To K F H σ τ F1 H1 τ1) {p : Addr} {o : HO} (n : ¬ IsOwn τ p) (h : H p = some o) (hf : F p = none) (nt : NT o := by intro ps z; cases z) : F1 p = none := by
  cases q : F1 p with
  | none => rfl
  | some u =>
    rcases t.ext.new p u q with z | z | z
    · rw [hf] at z; cases z
    · exact (z _ h nt).elim
    · exact absurd z n
def noX : Xn → List Cell → Prop := fun _ _ => False
abbrev W0 : WX := fun _ _ _ _ => False
theorem xto0 {F H : Hp} {σ : L2.St} {τ : List Cell} : XTo K W0 F H σ τ noX := fun _ _ _ _ _ _ _ _ h => h
def wYes : TW := fun τ q _ => q true τ
theorem dt_yes : DT K W tYes wYes := ⟨fun σ H τ F Q q e S hq k _ => k true τ F H (.refl S) hq⟩
def wLc (wI : IW) (wg : GW) (wt : TW) (we : EW) (vs : List Nat) : EW := fun τ q e => wI τ (fun ds τ1 => ds.length ≤ 1000 ∧ ∃ inv : Nat → List D → List Cell → Prop, inv 0 [] (wipeD τ1 vs) ∧
  (∀ i d acc τ2, ds[i]? = some d → inv i acc τ2 → acc.length ≤ i → wg d τ2 fun τ3 => wt τ3 (fun b τ4 => (b = true → we τ4 (fun y τ5 => inv (i + 1) (acc ++ [y]) (wipeD τ5 vs)) noX) ∧ (b = false → inv (i + 1) acc (wipeD τ4 vs))) noX) ∧
  ∀ acc τ2, inv ds.length acc (wipeD τ2 vs) → acc.length ≤ ds.length → q (.lst acc) (wipeD τ2 vs)) e
theorem wipeD_idem {τ : List Cell} {vs : List Nat} : wipeD (wipeD τ vs) vs = wipeD τ vs := by
  apply List.ext_getElem?
  intro j
  rw [wipeD_get, wipeD_length, wipeD_get]
  by_cases h : j ∈ vs ∧ j < τ.length
  · rw [if_pos h, if_pos h]
  · rw [if_neg h, if_neg h]
theorem isOwn_wipe {τ : List Cell} {vs : List Nat} {p : Addr} (h : IsOwn (wipeD τ vs) p) : IsOwn τ p := by
  obtain ⟨i, c, e, f⟩ := h
  exact ⟨i, c, wipeD_has e f, f⟩
/-- the comprehension's turns: D the new list -/
theorem lc_turns {J : It} {g : TG} {tt : TT} {te : TE} {vs ws : List Nat} {wg : GW} {wt : TW} {we : EW} {σ : L2.St} {F1 H1 : Hp} {τ1 : List Cell} {ds : List D} {Qd : Hp → Prop} {Da : Addr} {inv : Nat → List D → List Cell → Prop}
    (hg : DG K ws g wg) (ht : DT K W0 tt wt) (he : DE K W0 te we) (hs : ∀ j ∈ ws, j ∈ vs) (S : SOk K F1 H1 σ τ1) (it : ItOk K F1 J ds) (hD : H1 Da = none) (hn : ds.length ≤ 1000) (h0 : inv 0 [] (wipeD τ1 vs))
    (hst : ∀ i d acc τ2, ds[i]? = some d → inv i acc τ2 → acc.length ≤ i → wg d τ2 fun τ3 => wt τ3 (fun b τ4 => (b = true → we τ4 (fun y τ5 => inv (i + 1) (acc ++ [y]) (wipeD τ5 vs)) noX) ∧ (b = false → inv (i + 1) acc (wipeD τ4 vs))) noX)
    (hd : ∀ accV acc F2 H2 τ2, To K F1 H1 (wipe σ vs) τ1 F2 H2 (wipeD τ2 vs) → F2 Da = none → ¬ IsOwn (wipeD τ2 vs) Da → H2 Da = some (.lst accV) → Reps K F2 accV acc → acc.length ≤ ds.length → inv ds.length acc (wipeD τ2 vs) → Qd H2) :
    ∃ W : Nat → Nat → Hp → Prop, (∃ m, W 0 m (upd H1 Da (.lst []))) ∧ ∀ i m H, W i m H → (J.stop i H ∧ Qd H) ∨ (J.go i H ∧ ∃ Nx : Hp → Prop, (∀ H', Nx H' → ∃ m', m' < m ∧ W (i + 1) m' H') ∧ ∀ x H', J.yld i H x H' → g x (wipe σ vs) H' fun σ2 H2 => wipe σ2 vs = wipe σ vs ∧ tt σ2 H2 fun b H3 =>
    if b = true then te σ2 H3 fun y H4 => ∃ acc, H4 Da = some (.lst acc) ∧ acc.length < sizeLine ∧ Nx (upd H4 Da (.lst (acc ++ [y]))) else Nx H3) := by
  let Inv (i : Nat) (H : Hp) : Prop := ∃ accV acc F2 τ2, To K F1 H1 (wipe σ vs) τ1 F2 H (wipeD τ2 vs) ∧ F2 Da = none ∧ ¬ IsOwn (wipeD τ2 vs) Da ∧ H Da = some (.lst accV) ∧ Reps K F2 accV acc ∧ acc.length ≤ i ∧ inv i acc (wipeD τ2 vs)
  have S1 : SOk K F1 H1 (wipe σ vs) (wipeD τ1 vs) := S.wiped (wipe_length σ vs) fun j hj => wipe_ne hj
  have F1D : F1 Da = none := by
    cases q : F1 Da with
    | none => rfl
    | some u => rw [S.sub _ _ q] at hD; cases hD
  have no1 : ¬ IsOwn τ1 Da := fun z => by
    obtain ⟨_, us, e2, _⟩ := S.own.has z
    rw [hD] at e2; cases e2
  have start : Inv 0 (upd H1 Da (.lst [])) := by
    refine ⟨[], [], F1, τ1, To.touch ⟨.refl _ _ _, fun p h => .inl (isOwn_wipe h), S1⟩ (fr_none hD) F1D (fun z => no1 (isOwn_wipe z)) (tabs_new hD), F1D, fun z => no1 (isOwn_wipe z), upd_same, .nil, Nat.le_refl _, h0⟩
  refine ⟨fun i m H => m = ds.length - i ∧ i ≤ ds.length ∧ Inv i H, ⟨_, rfl, Nat.zero_le _, start⟩, ?_⟩
  rintro i m H ⟨rfl, hi, accV, acc, F2, τ2, T, fD, nD, hH, ra, la, hinv⟩
  have s12 : Same F1 F2 := T.ext.f
  by_cases hlt : i < ds.length
  · refine .inr ⟨it.go i F2 H s12 T.ok.sub hlt, Inv (i + 1), fun H' p' => ⟨ds.length - (i + 1), by omega, rfl, hlt, p'⟩, fun x H' y => ?_⟩
    obtain ⟨d, F3, ed, x3, s3, r3⟩ := it.yld i F2 H x H' s12 T.ok.sub hlt y
    have T3 : To K F2 H (wipe σ vs) (wipeD τ2 vs) F3 H' (wipeD τ2 vs) := .small T.ok x3 s3
    refine hg.run _ H' _ F3 x d _ _ T3.ok r3 (hst i d acc _ ed hinv la) fun σ4 τ4 S4 o4 a4 l4 h4 => ?_
    have ew : wipe σ4 vs = wipe σ vs := wipe_eq hs (by rw [l4]) (fun j hj => a4 j hj)
    refine ⟨ew, ?_⟩
    have T4 : To K F2 H σ4 (wipeD τ2 vs) F3 H' τ4 := T3.at S4 o4
    refine ht.run σ4 H' τ4 F3 _ _ noX S4 h4 (fun b τ5 F5 H5 t5 ⟨h5, h6⟩ => ?_) xto0
    have T5 := T4.trans t5
    have back : ∀ {F6 H6 : Hp} {τ6 : List Cell}, To K F2 H σ4 (wipeD τ2 vs) F6 H6 τ6 → To K F1 H1 (wipe σ vs) τ1 F6 H6 (wipeD τ6 vs) := fun {F6 H6 τ6} t =>
      (T.trans t).at (t.ok.wiped (by rw [← ew, wipe_length]) fun j hj => by rw [← ew]; exact wipe_ne hj) fun p h => isOwn_wipe h
    cases b with
    | false =>
      refine iteF ?_
      have n5 := T5.not_own nD hH
      refine ⟨accV, acc, F5, τ5, back T5, T5.not_data nD hH fD, fun z => n5 (isOwn_wipe z), T5.ext.keep Da _ hH nD nt_lst, ra.mono T5.ext.f, Nat.le_succ_of_le la, h6 rfl⟩
    | true =>
      refine iteT ?_
      refine he.run σ4 H5 τ5 F5 _ _ noX t5.ok (h5 rfl) (fun yv yd τ6 F6 H6 t6 r6 h7 => ?_) xto0
      have T6 := T5.trans t6
      have n6 := T6.not_own nD hH
      refine ⟨accV, T6.ext.keep Da _ hH nD nt_lst, by rw [ra.length]; exact Nat.lt_of_le_of_lt la (small1000 (by omega)), ?_⟩
      have nw : ¬ IsOwn (wipeD τ6 vs) Da := fun z => n6 (isOwn_wipe z)
      refine ⟨accV ++ [yv], acc ++ [yd], F6, τ6, (back T6).touch (fr_none hD) (T6.not_data nD hH fD) nw (tabs_lst (T6.ext.keep Da _ hH nD nt_lst)), T6.not_data nD hH fD, nw, upd_same, (ra.mono T6.ext.f).append (.cons r6 .nil), ?_, h7⟩
      rw [List.length_append, List.length_singleton]
      omega
  · have e : i = ds.length := by omega
    subst e
    exact .inl ⟨it.stop F2 H s12 T.ok.sub, hd accV acc F2 H τ2 T fD nD hH ra la hinv⟩
theorem de_lc {wi : TI} {g : TG} {tt : TT} {te : TE} {vs ws : List Nat} {wI : IW} {wg : GW} {wt : TW} {we : EW} (hi : DI K W wi wI) (hg : DG K ws g wg) (ht : DT K W0 tt wt) (he : DE K W0 te we) (hs : ∀ j ∈ ws, j ∈ vs) :
    DE K W (tLc wi g tt te vs) (wLc wI wg wt we vs) := by
  refine ⟨fun σ H τ F Q q e S hw k x => hi.run σ H τ F _ _ e S hw (fun J ds τ1 F1 H1 t1 it ⟨hn, inv, h0, hst, hd⟩ Da hD => ?_) x⟩
  refine lc_turns hg ht he hs t1.ok it hD hn h0 hst fun accV acc F2 H2 τ2 T fD nD hH ra la hinv => ?_
  refine k (.ref Da) (.lst acc) (wipeD τ2 vs) (upd F2 Da (.lst accV)) H2 ?_ (.lst upd_same (ra.mono (same_upd fD))) (hd acc τ2 hinv la)
  have T2 := T.freeze (fr_none hD) fD hH nD
  refine t1.trans (To.at (τ1 := wipeD τ2 vs) T2 ?_ fun p h => h)
  rw [← wipeD_idem]
  exact T2.ok.wiped (by rw [wipe_length]) fun j hj => (wipe_ne hj).symm
end
end L3

/-! ## statements -/
namespace L3
open PySem PySem.Spec PyProof.Rows L2
variable [TB : TabT]
section
variable {K : PySem.W.Frag} {W : WX}
structure Ret (K : PySem.W.Frag) (F H : Hp) (τ : List Cell) (F' H' : Hp) (τ' : List Cell) : Prop where
  ext : Ext τ F H F' H'
  grow : Grow τ H τ'
  sub : Same F' H'
  own : OwnOk K F' H' τ'
  inj : InjOk τ'
theorem To.ret {F H F' H' : Hp} {σ : L2.St} {τ τ' : List Cell} (t : To K F H σ τ F' H' τ') : Ret K F H τ F' H' τ' := ⟨t.ext, t.grow, t.ok.sub, t.ok.own, t.ok.inj⟩
theorem Ret.pre {F H F1 H1 F2 H2 : Hp} {σ : L2.St} {τ τ1 τ2 : List Cell} (a : To K F H σ τ F1 H1 τ1) (b : Ret K F1 H1 τ1 F2 H2 τ2) : Ret K F H τ F2 H2 τ2 :=
  ⟨a.ext.trans a.grow b.ext, .trans a.ext a.grow b.grow, b.sub, b.own, b.inj⟩
theorem To.back {F H F1 H1 : Hp} {σ : L2.St} {τ τ1 : List Cell} (t : To K F H σ τ F1 H1 τ1) {p : Addr} (h : Fr H1 p) : Fr H p := t.ext.there p h
structure Out (K : PySem.W.Frag) (W : WX) (F H : Hp) (τ : List Cell) (E : EndsD) (Dn : Ends) : Prop where
  nx : ∀ σ' τ' F' H', To K F H σ' τ F' H' τ' → E.nx τ' → Dn.nx σ' H'
  bk : ∀ σ' τ' F' H', To K F H σ' τ F' H' τ' → E.bk τ' → Dn.bk σ' H'
  ct : ∀ σ' τ' F' H', To K F H σ' τ F' H' τ' → E.ct τ' → Dn.ct σ' H'
  rt : ∀ v d τ' F' H', Ret K F H τ F' H' τ' → Rep K F' v d → E.rt d τ' → Dn.rt v H'
  ex : ∀ σ', XTo K W F H σ' τ E.ex
  rf : ∀ p k τ' F' H', Ret K F H τ F' H' τ' → CellOk K F' H' (.own p k) → (∀ a, Has (.own p k) a → Fr H a ∧ ¬ IsOwn τ' a) → E.rf k τ' → Dn.rt (.ref p) H'
theorem Out.of {F H F1 H1 : Hp} {σ : L2.St} {τ τ1 : List Cell} {E : EndsD} {Dn : Ends} (o : Out K W F H τ E Dn) (t : To K F H σ τ F1 H1 τ1) : Out K W F1 H1 τ1 E Dn :=
  ⟨fun σ' τ' F' H' u q => o.nx σ' τ' F' H' (t.trans u) q, fun σ' τ' F' H' u q => o.bk σ' τ' F' H' (t.trans u) q, fun σ' τ' F' H' u q => o.ct σ' τ' F' H' (t.trans u) q,
    fun v d τ' F' H' u r q => o.rt v d τ' F' H' (u.pre t) r q, fun σ' x cls dx τ' F' H' u r q => o.ex σ' x cls dx τ' F' H' (t.trans u) r q,
    fun p k τ' F' H' u c n q => o.rf p k τ' F' H' (u.pre t) c (fun a f => ⟨t.back (n a f).1, (n a f).2⟩) q⟩
structure DS (K : PySem.W.Frag) (W : WX) (t : TS) (w : SW) : Prop where
  run : ∀ σ H τ F Dn E, SOk K F H σ τ → w E τ → Out K W F H τ E Dn → t Dn σ H
theorem Out.xto {F H : Hp} {σ : L2.St} {τ : List Cell} {E : EndsD} {Dn : Ends} (o : Out K W F H τ E Dn) : XTo K W F H σ τ E.ex := o.ex σ

def wNext : SW := fun E τ => E.nx τ
theorem ds_nil : DS K W tNext wNext := ⟨fun σ H τ F Dn E S h o => o.nx σ τ F H (.refl S) h⟩
def wSq (w u : SW) : SW := fun E τ => w { E with nx := u E } τ
theorem ds_seq {t u : TS} {w v : SW} (h : DS K W t w) (g : DS K W u v) : DS K W (tSeq t u) (wSq w v) := by
  refine ⟨fun σ H τ F Dn E S hw o => h.run σ H τ F { Dn with nx := u Dn } { E with nx := v E } S hw ?_⟩
  exact ⟨fun σ' τ' F' H' t' q => g.run σ' H' τ' F' Dn E t'.ok q (o.of t'), o.bk, o.ct, o.rt, o.ex, o.rf⟩
def wBreak : SW := fun E τ => E.bk τ
theorem ds_break : DS K W tBreak wBreak := ⟨fun σ H τ F Dn E S h o => o.bk σ τ F H (.refl S) h⟩
def wCont : SW := fun E τ => E.ct τ
theorem ds_cont : DS K W tCont wCont := ⟨fun σ H τ F Dn E S h o => o.ct σ τ F H (.refl S) h⟩
def wDrop (we : EW) : SW := fun E τ => we τ (fun _ τ' => E.nx τ') E.ex
theorem ds_drop {t : TE} {w : EW} (h : DE K W t w) : DS K W (tDrop t) (wDrop w) :=
  ⟨fun σ H τ F Dn E S hw o => h.run σ H τ F _ _ E.ex S hw (fun v d τ' F' H' t' r q => o.nx σ τ' F' H' t' q) o.xto⟩
def wRet (we : EW) : SW := fun E τ => we τ E.rt E.ex
theorem ds_ret {t : TE} {w : EW} (h : DE K W t w) : DS K W (tRet t) (wRet w) :=
  ⟨fun σ H τ F Dn E S hw o => h.run σ H τ F _ _ E.ex S hw (fun v d τ' F' H' t' r q => o.rt v d τ' F' H' t'.ret r q) o.xto⟩
def wRetN : SW := fun E τ => E.rt .non τ
theorem ds_retN : DS K W tRetN wRetN := ⟨fun σ H τ F Dn E S h o => o.rt .non .non τ F H (To.refl S).ret .non h⟩
def wIfS (wc : TW) (w u : SW) : SW := fun E τ => wc τ (fun b τ' => (b = true → w E τ') ∧ (b = false → u E τ')) E.ex
theorem ds_if {c : TT} {t u : TS} {wc : TW} {w v : SW} (h : DT K W c wc) (g : DS K W t w) (l : DS K W u v) : DS K W (tIfS c t u) (wIfS wc w v) := by
  refine ⟨fun σ H τ F Dn E S hw o => h.run σ H τ F _ _ E.ex S hw (fun b τ' F' H' t' ⟨h1, h2⟩ => ?_) o.xto⟩
  cases b with
  | true => exact iteT (g.run σ H' τ' F' Dn E t'.ok (h1 rfl) (o.of t'))
  | false => exact iteF (l.run σ H' τ' F' Dn E t'.ok (h2 rfl) (o.of t'))
def wAsg (we : EW) (wg : GW) : SW := fun E τ => we τ (fun d τ' => wg d τ' E.nx) E.ex
theorem ds_asg {t : TE} {w : EW} {vs : List Nat} {g : TG} {wg : GW} (h : DE K W t w) (l : DG K vs g wg) : DS K W (tAsg t g) (wAsg w wg) := by
  refine ⟨fun σ H τ F Dn E S hw o => h.run σ H τ F _ _ E.ex S hw (fun v d τ' F' H' t' r hq => ?_) o.xto⟩
  refine l.run σ H' τ' F' v d _ _ t'.ok r hq fun σ2 τ2 S2 o2 _ _ q => ?_
  exact o.nx σ2 τ2 F' H' (t'.at S2 o2) q
/-- a, b = e1, e2 -/
def wPar (i j : Nat) (wa : AW) : SW := fun E τ => wa τ (fun ds τ' => ∃ d d', ds = [d, d'] ∧ E.nx ((τ'.set i (.dat d)).set j (.dat d'))) E.ex
theorem ds_par {i j : Nat} {t : TA} {w : AW} (h : DA K W t w) : DS K W (tPar i j t) (wPar i j w) := by
  refine ⟨fun σ H τ F Dn E S hw o => h.run σ H τ F _ _ E.ex S hw (fun vs ds τ' F' H' t' r ⟨d, d', e, hq⟩ => ?_) o.xto⟩
  subst e
  obtain ⟨v, v', rfl, r1, r2⟩ := r.two
  refine ⟨v, v', rfl, ?_⟩
  refine o.nx _ _ F' H' (t'.at ((t'.ok.set r1).set r2) fun p h => ?_) hq
  exact isOwn_set (c := .dat d) (fun a z => z) (isOwn_set (c := .dat d') (fun a z => z) h)

/-! ### lists of the frame's own -/
theorem SOk.setCell {F H : Hp} {σ : L2.St} {τ : List Cell} {i : Nat} {v : V} {c : Cell} (S : SOk K F H σ τ) (co : CellOk K F H c) (sl : SlotOk K F (some v) c) (n : ∀ a, Has c a → ¬ IsOwn τ a) :
    SOk K F H (σ.set i (some v)) (τ.set i c) := by
  refine ⟨S.tabs, S.sub, by rw [List.length_set, List.length_set, S.len], fun j s c' h1 h2 => ?_, fun j d h => ?_, S.inj.set fun a z j d _ e f => n a z ⟨j, d, e, f⟩⟩
  · by_cases e : i = j
    · subst e
      by_cases hl : i < σ.length
      · rw [List.getElem?_set_self hl] at h1
        rw [List.getElem?_set_self (by rw [← S.len]; exact hl)] at h2
        cases h1; cases h2
        exact sl
      · rw [List.getElem?_eq_none (by rw [List.length_set]; exact Nat.le_of_not_lt hl)] at h1
        cases h1
    · rw [List.getElem?_set_ne e] at h1 h2
      exact S.slot j s c' h1 h2
  · rcases set_get h with ⟨_, rfl, _⟩ | ⟨_, h⟩
    · exact co
    · exact S.own j d h
theorem SOk.setOwn {F H : Hp} {σ : L2.St} {τ : List Cell} {i : Nat} {p : Addr} {ds : Cont} (S : SOk K F H σ τ) (co : CellOk K F H (.own p ds)) (n : ∀ a, Has (.own p ds) a → ¬ IsOwn τ a) :
    SOk K F H (σ.set i (some (.ref p))) (τ.set i (.own p ds)) := S.setCell co rfl n
theorem flat_has {k : Cont} (fl : Flat k) {p a : Addr} (h : Has (.own p k) a) : a = p := h.elim id fun z => absurd z fl.no
theorem new_not_own {F H : Hp} {σ : L2.St} {τ : List Cell} {p : Addr} (S : SOk K F H σ τ) (h : H p = none) : ¬ IsOwn τ p := fun z => by
  obtain ⟨_, us, e2, _⟩ := S.own.has z
  rw [h] at e2; cases e2
theorem new_not_data {F H : Hp} {σ : L2.St} {τ : List Cell} {p : Addr} (S : SOk K F H σ τ) (h : H p = none) : F p = none := by
  cases q : F p with
  | none => rfl
  | some u => rw [S.sub _ _ q] at h; cases h
/-- x = [..], x a list of the frame's own -/
def wLstOwn (i : Nat) (wa : AW) : SW := fun E τ => wa τ (fun ds τ' => ds.length ≤ 1000 ∧ ∀ p, E.nx (τ'.set i (.own p (.lst ds)))) E.ex
theorem grow_set {F H F' H' : Hp} {σ : L2.St} {τ τ' : List Cell} {i : Nat} {c : Cell} (t : To K F H σ τ F' H' τ') (n : ∀ a, Has c a → Fr H a) : Grow τ H (τ'.set i c) := fun q ⟨j, d, h, f⟩ => by
  rcases set_get h with ⟨_, rfl, _⟩ | ⟨_, h⟩
  · exact .inr (n q f)
  · exact t.grow q ⟨j, d, h, f⟩
theorem to_own {F H F' H' : Hp} {σ : L2.St} {τ τ' : List Cell} {i : Nat} {p : Addr} {ds : Cont} {vs : HO} (t : To K F H σ τ F' H' τ') (hp : H' p = none) (r : CRep K F' vs ds) (fl : Flat ds := by trivial) :
    To K F H (σ.set i (some (.ref p))) τ F' (upd H' p vs) (τ'.set i (.own p ds)) := by
  have nO := new_not_own t.ok hp
  have nF := new_not_data t.ok hp
  have hp0 : Fr H p := t.ext.there p (fr_none hp)
  have T2 := t.touch (o := vs) hp0 nF nO (tabs_new hp)
  exact ⟨T2.ext, grow_set T2 fun a f => by rw [flat_has fl f]; exact hp0, T2.ok.setOwn (.flat fl nF upd_same r) fun a f => by rw [flat_has fl f]; exact nO⟩
theorem ds_lstOwn {i : Nat} {t : TA} {w : AW} (h : DA K W t w) : DS K W (tAsg (tLst t) (gName i)) (wLstOwn i w) := by
  refine ⟨fun σ H τ F Dn E S hw o => h.run σ H τ F _ _ E.ex S hw (fun vs ds τ' F' H' t' r ⟨hl, hq⟩ => ?_) o.xto⟩
  refine ⟨by rw [r.length]; exact Nat.le_of_lt (small1000 hl), fun p hp => ?_⟩
  exact o.nx _ _ F' _ (to_own t' hp (.lst r)) (hq p)
/-- what stands in an own list is changed -/
theorem to_change {F H F' H' : Hp} {σ : L2.St} {τ τ' : List Cell} {i : Nat} {p : Addr} {ds es : Cont} {vs : HO} (t : To K F H σ τ F' H' τ') (h : τ'[i]? = some (.own p ds)) (r : CRep K F' vs es) (fl : Flat ds := by trivial) (fl' : Flat es := by trivial) :
    To K F H σ τ F' (upd H' p vs) (τ'.set i (.own p es)) := by
  have hi : i < τ'.length := (List.getElem?_eq_some_iff.mp h).1
  have own1 : IsOwn τ' p := isOwn_at h
  obtain ⟨hF, us, hH, hR, _⟩ := t.ok.own i _ h
  have nt1 : LamX.Tabs TB.T H' → LamX.Tabs TB.T (upd H' p vs) := tabs_crep hH hR
  refine ⟨⟨t.ext.f, t.ext.new, fun a u e z nt => ?_, fun a e => ?_, fun z => ⟨nt1 (t.ext.tabs z).1, (t.ext.tabs z).2⟩⟩, fun q ⟨j, c, e, f⟩ => ?_, ⟨⟨nt1 t.ok.tabs.1, t.ok.tabs.2⟩, fun a u e => ?_, by rw [List.length_set]; exact t.ok.len, fun j s c h1 h2 => ?_, fun j c e => ?_, t.ok.inj.set fun a f j d nj e f2 => ?_⟩⟩
  · by_cases q : a = p
    · subst q
      rcases t.grow a own1 with z' | z'
      · exact absurd z' z
      · exact (z' _ e nt).elim
    · rw [upd_ne q]; exact t.ext.keep a u e z nt
  · by_cases q : a = p
    · subst q; exact (e _ upd_same r.nt).elim
    · exact t.ext.there a fun o' e' => e o' (by rw [upd_ne q]; exact e')
  · rcases set_get e with ⟨_, rfl, _⟩ | ⟨_, e⟩
    · rw [flat_has fl' f]; exact t.grow _ own1
    · exact t.grow q ⟨j, c, e, f⟩
  · rw [upd_ne (fun z => by rw [z, hF] at e; cases e)]
    exact t.ok.sub a u e
  · rcases set_get h2 with ⟨rfl, rfl, _⟩ | ⟨_, h2⟩
    · exact (show s = some (.ref p) from t.ok.slot j s _ h1 h)
    · exact t.ok.slot j s c h1 h2
  · rcases set_get e with ⟨rfl, rfl, _⟩ | ⟨n, e⟩
    · exact .flat fl' hF upd_same r
    · refine (t.ok.own j c e).move (Same.refl _) fun a f => ⟨((t.ok.own j c e).has f).1, fun u hu _ => ?_⟩
      rw [upd_ne (fun z => n (t.ok.inj j i c _ a e h f (.inl z)))]
      exact hu
  · have f := flat_has fl' f
    subst f
    exact nj (t.ok.inj j i d _ a e h f2 (.inl rfl))
theorem own_at {F H : Hp} {σ : L2.St} {τ : List Cell} {i : Nat} {p : Addr} {ds : Cont} (S : SOk K F H σ τ) (h : τ[i]? = some (.own p ds)) : σ[i]? = some (some (.ref p)) ∧ F p = none ∧ ∃ vs, H p = some vs ∧ CRep K F vs ds := by
  have hi : i < σ.length := by rw [S.len]; exact (List.getElem?_eq_some_iff.mp h).1
  have e : σ[i] = some (.ref p) := S.slot i σ[i] _ (List.getElem?_eq_getElem hi) h
  obtain ⟨h1, vs, h2, h3, _⟩ := S.own i _ h
  exact ⟨by rw [List.getElem?_eq_getElem hi, e], h1, vs, h2, h3⟩
theorem own_lst {F H : Hp} {σ : L2.St} {τ : List Cell} {i : Nat} {p : Addr} {ds : List D} (S : SOk K F H σ τ) (h : τ[i]? = some (.own p (.lst ds))) : σ[i]? = some (some (.ref p)) ∧ F p = none ∧ ∃ vs, H p = some (.lst vs) ∧ Reps K F vs ds := by
  obtain ⟨h1, h2, o, h3, h4⟩ := own_at S h
  cases h4 with
  | @lst vs _ r => exact ⟨h1, h2, vs, h3, r⟩
/-- x.append(e), x an own list: as a statement -/
def wAppend (i : Nat) (wa : AW) : SW := fun E τ => (∃ p es, τ[i]? = some (.own p (.lst es))) ∧ wa τ (fun ds τ' => ∃ p es d, ds = [d] ∧ τ'[i]? = some (.own p (.lst es)) ∧ es.length < 1000 ∧ E.nx (τ'.set i (.own p (.lst (es ++ [d]))))) E.ex
theorem ds_append {i : Nat} {t : TA} {w : AW} (h : DA K W t w) : DS K W (tDrop (tBM K "list" rAppend (tVar i) t)) (wAppend i w) := by
  refine ⟨fun σ H τ F Dn E S ⟨⟨p, es, e0⟩, hw⟩ o => ?_⟩
  obtain ⟨s0, _, vs0, h0, _⟩ := own_lst S e0
  refine ⟨.ref p, s0, .inl ⟨rfl, vs0, .inl (.inl h0)⟩, ?_⟩
  refine h.run σ H τ F _ _ E.ex S hw (fun vs ds τ' F' H' t' r ⟨p', es', d, ed, e1, hl, hq⟩ => ?_) o.xto
  subst ed
  obtain ⟨v, rfl, r1⟩ := r.one
  obtain ⟨s1, _, vs1, h1, r2⟩ := own_lst t'.ok e1
  rw [s0] at s1
  cases s1
  refine ⟨p, vs1, v, rfl, rfl, h1, by rw [r2.length]; exact small1000 (Nat.le_of_lt hl), ?_⟩
  exact o.nx σ _ F' _ (to_change t' e1 (.lst (r2.append (.cons r1 .nil)))) hq
/-- x[k] = e, x an own list -/
def wSetOwn (i : Nat) (we wk : EW) : SW := fun E τ => we τ (fun d τ1 => (∃ p es, τ1[i]? = some (.own p (.lst es))) ∧ wk τ1 (fun k τ2 => ∃ p es n j, τ2[i]? = some (.own p (.lst es)) ∧ k = .int n ∧ ixN es.length n = some j ∧ E.nx (τ2.set i (.own p (.lst (es.set j d))))) E.ex) E.ex
theorem ds_setOwn {i : Nat} {t u : TE} {w v : EW} (h : DE K W t w) (g : DE K W u v) : DS K W (tAsg t (gSub (tVar i) u rSetL)) (wSetOwn i w v) := by
  refine ⟨fun σ H τ F Dn E S hw o => h.run σ H τ F _ _ E.ex S hw (fun x d τ1 F1 H1 t1 r1 ⟨⟨p, es, e0⟩, h1⟩ => ?_) o.xto⟩
  obtain ⟨s0, _, vs0, h0, _⟩ := own_lst t1.ok e0
  refine ⟨.ref p, s0, ?_⟩
  refine g.run σ H1 τ1 F1 _ _ E.ex t1.ok h1 (fun y k τ2 F2 H2 t2 r2 ⟨p', es', n, j, e1, ek, ej, hq⟩ => ?_) (o.of t1).xto
  subst ek
  obtain ⟨s1, _, vs1, h2, r3⟩ := own_lst t2.ok e1
  rw [s0] at s1
  cases s1
  refine ⟨p, vs1, n, j, rfl, r2.int_of, h2, by rw [r3.length]; exact ej, ?_⟩
  exact o.nx σ _ F2 _ (to_change (t1.trans t2) e1 (.lst (Reps.set (r1.mono t2.ext.f) j r3))) hq
/-- x[k] of an own list -/
def wIxOwn (i : Nat) (wk : EW) : EW := fun τ q e => (∃ p es, τ[i]? = some (.own p (.lst es))) ∧ wk τ (fun k τ1 => ∃ p es n d, τ1[i]? = some (.own p (.lst es)) ∧ k = .int n ∧ atI es n = some d ∧ q d τ1) e
theorem de_ixOwn {i : Nat} {t : TE} {w : EW} (h : DE K W t w) : DE K W (tOp (rIx K) (tVar i) t) (wIxOwn i w) := by
  refine ⟨fun σ H τ F Q q e S ⟨⟨p, es, e0⟩, hw⟩ k x => ?_⟩
  obtain ⟨s0, _, vs0, h0, _⟩ := own_lst S e0
  refine ⟨.ref p, s0, ?_⟩
  refine h.run σ H τ F _ _ e S hw (fun y kd τ1 F1 H1 t1 r1 ⟨p', es', n, d, e1, ek, ea, hq⟩ => ?_) x
  subst ek
  obtain ⟨s1, _, vs1, h1, r2⟩ := own_lst t1.ok e1
  rw [s0] at s1
  cases s1
  obtain ⟨v, ev, rv⟩ := atI_rep r2 ea
  exact .inl ⟨p, vs1, n, v, rfl, r1.int_of, .inl (.inl h1), ev, k v d τ1 F1 H1 t1 rv hq⟩
/-- a built-in of an own list alone that keeps nothing of it: len, tuple, list .. -/
def OpPeek (K : PySem.W.Frag) (r : List V → Hp → VK → Prop) (g : List D → (D → Prop) → Prop) : Prop :=
  ∀ F H p vs ds (q : D → Prop) Q, Same F H → H p = some (.lst vs) → Reps K F vs ds → g ds q → (∀ v d F' H', Ext [] F H F' H' → Same F' H' → Rep K F' v d → q d → Q v H') → r [.ref p] H Q
def wPeek (i : Nat) (g : List D → (D → Prop) → Prop) : EW := fun τ q _ => ∃ p es, τ[i]? = some (.own p (.lst es)) ∧ g es fun d => q d τ
theorem de_peek {i : Nat} {r : List V → Hp → VK → Prop} {g : List D → (D → Prop) → Prop} (o : OpPeek K r g) : DE K W (tCB r (tCons (tVar i) tNil)) (wPeek i g) := by
  refine ⟨fun σ H τ F Q q e S ⟨p, es, e0, hg⟩ k x => ?_⟩
  obtain ⟨s0, _, vs0, h0, r0⟩ := own_lst S e0
  refine ⟨.ref p, s0, ?_⟩
  exact o F H p vs0 es _ Q S.sub h0 r0 hg fun v d F' H' x1 s1 rv hq => k v d τ F' H' (.small S x1 s1) rv hq
theorem p_len : OpPeek K (rLenS K) (fun es q => q (.int es.length)) := fun F H p vs ds q Q s h r hq k =>
  ⟨p, vs, rfl, .inl (.inl (.inl h)), k _ (.int ds.length) F H (.refl _ _ _) s (by rw [r.length]; exact .int _) hq⟩
theorem p_tupleOf : OpPeek K (rTupleOf K) (fun es q => q (.tup es)) := fun F H p vs ds q Q s h r hq k => by
  refine ⟨p, vs, rfl, .inl ⟨.inl (.inl h), fun l hl => ?_⟩⟩
  obtain ⟨x1, x2⟩ := new_ext (o := .tup vs) s hl
  exact k _ (.tup ds) _ _ x1 x2 (.tup (.inl (.inl upd_same)) (r.mono (new_same s hl))) hq
theorem p_listOf : OpPeek K (rListOf K) (fun es q => q (.lst es)) := fun F H p vs ds q Q s h r hq k => by
  refine ⟨p, vs, rfl, .inl (.inl (.inl h)), fun l hl => ?_⟩
  obtain ⟨x1, x2⟩ := new_ext (o := .lst vs) s hl
  exact k _ (.lst ds) _ _ x1 x2 (.lst upd_same (r.mono (new_same s hl))) hq
/-- return x, x an own list: it becomes data -/
def wRetOwn (i : Nat) : SW := fun E τ => ∃ p es, τ[i]? = some (.own p (.lst es)) ∧ E.rt (.lst es) (τ.set i .any)
theorem ds_retOwn {i : Nat} : DS K W (tRet (tVar i)) (wRetOwn i) := by
  refine ⟨fun σ H τ F Dn E S ⟨p, es, e0, hq⟩ o => ?_⟩
  obtain ⟨s0, f0, vs0, h0, r0⟩ := own_lst S e0
  refine ⟨.ref p, s0, ?_⟩
  have s : Same F (upd F p (.lst vs0)) := same_upd f0
  refine o.rt (.ref p) (.lst es) (τ.set i .any) (upd F p (.lst vs0)) H ⟨⟨s, fun a u e => ?_, fun _ _ e _ _ => e, fun _ e => e, fun g => ⟨g.1, nt_upd nt_lst g.2⟩⟩, fun q h => .inl (isOwn_set (c := .any) (fun a z => z) h), fun a u e => ?_, fun j c e => ?_, S.inj.set fun a z => z.elim⟩ (.lst upd_same (r0.mono s)) hq
  · by_cases q : a = p
    · subst q; exact .inr (.inr (isOwn_at e0))
    · rw [upd_ne q] at e; exact .inl e
  · by_cases q : a = p
    · subst q; rw [upd_same] at e; rw [h0]; exact e
    · rw [upd_ne q] at e; exact S.sub a u e
  · rcases set_get e with ⟨_, rfl, _⟩ | ⟨n, e⟩
    · exact trivial
    · refine (S.own j c e).move s fun a f => ⟨?_, fun u hu _ => hu⟩
      rw [upd_ne (fun z => n (S.inj j i c _ a e e0 f (.inl z)))]
      exact ((S.own j c e).has f).1

/-- in a def that hands back a list of its own -/
def wRetFr (wa : AW) : SW := fun E τ => wa τ (fun ds τ' => ds.length ≤ 1000 ∧ E.rf (.lst ds) τ') E.ex
theorem ds_retFr {t : TA} {w : AW} (h : DA K W t w) : DS K W (tRet (tLst t)) (wRetFr w) := by
  refine ⟨fun σ H τ F Dn E S hw o => h.run σ H τ F _ _ E.ex S hw (fun vs ds τ' F' H' t' r ⟨hl, hq⟩ => ?_) o.xto⟩
  refine ⟨by rw [r.length]; exact Nat.le_of_lt (small1000 hl), fun p hp => ?_⟩
  have hp0 := t'.back (fr_none hp)
  have nF := new_not_data t'.ok hp
  have nO := new_not_own t'.ok hp
  exact o.rf p (.lst ds) τ' F' _ (t'.touch hp0 nF nO (tabs_new hp)).ret (.flat trivial nF upd_same (.lst r)) (fun a f => by rw [flat_has (k := .lst ds) trivial f]; exact ⟨hp0, nO⟩) hq
def wRetOwnFr (i : Nat) : SW := fun E τ => ∃ p es, τ[i]? = some (.own p (.lst es)) ∧ E.rf (.lst es) (τ.set i .any)

/-! ### for -/
def wFor (wI : IW) (wg : GW) (wb : SW) : SW := fun E τ => wI τ (fun ds τ1 => ∃ inv : Nat → List Cell → Prop, inv 0 τ1 ∧
  (∀ i d τ2, ds[i]? = some d → inv i τ2 → wg d τ2 fun τ3 => wb { E with nx := inv (i + 1), ct := inv (i + 1), bk := E.nx } τ3) ∧ ∀ τ2, inv ds.length τ2 → E.nx τ2) E.ex
theorem ds_for {wi : TI} {g : TG} {tb : TS} {vs : List Nat} {wI : IW} {wg : GW} {wb : SW} (hi : DI K W wi wI) (hg : DG K vs g wg) (hb : DS K W tb wb) : DS K W (tFor wi g tb) (wFor wI wg wb) := by
  refine ⟨fun σ H τ F Dn E S hw o => hi.run σ H τ F _ _ E.ex S hw (fun J ds τ1 F1 H1 t1 it ⟨inv, h0, hst, hd⟩ => ?_) o.xto⟩
  have o1 := o.of t1
  refine ⟨fun i m σ2 H2 => m = ds.length - i ∧ i ≤ ds.length ∧ ∃ τ2 F2, To K F1 H1 σ2 τ1 F2 H2 τ2 ∧ inv i τ2, ⟨_, rfl, Nat.zero_le _, τ1, F1, .refl t1.ok, h0⟩, ?_⟩
  rintro i m σ2 H2 ⟨rfl, hle, τ2, F2, t2, hinv⟩
  by_cases hlt : i < ds.length
  · refine .inr ⟨it.go i F2 H2 t2.ext.f t2.ok.sub hlt, fun σ' H' => ∃ τ' F', To K F1 H1 σ' τ1 F' H' τ' ∧ inv (i + 1) τ', fun σ' H' ⟨τ', F', t', q⟩ => ⟨ds.length - (i + 1), by omega, rfl, hlt, τ', F', t', q⟩, fun x H' y => ?_⟩
    obtain ⟨d, F3, ed, x3, s3, r3⟩ := it.yld i F2 H2 x H' t2.ext.f t2.ok.sub hlt y
    have T3 : To K F1 H1 σ2 τ1 F3 H' τ2 := t2.trans (.small t2.ok x3 s3)
    refine hg.run σ2 H' τ2 F3 x d _ _ T3.ok r3 (hst i d τ2 ed hinv) fun σ4 τ4 S4 o4 _ _ h4 => ?_
    have T4 : To K F1 H1 σ4 τ1 F3 H' τ4 := T3.at S4 o4
    refine hb.run σ4 H' τ4 F3 _ _ S4 h4 ?_
    have o4 := o1.of T4
    exact ⟨fun σ' τ' F' H' u q => ⟨τ', F', T4.trans u, q⟩, fun σ' τ' F' H' u q => o4.nx σ' τ' F' H' u q, fun σ' τ' F' H' u q => ⟨τ', F', T4.trans u, q⟩, o4.rt, o4.ex, o4.rf⟩
  · have e : i = ds.length := by omega
    subst e
    exact .inl ⟨it.stop F2 H2 t2.ext.f t2.ok.sub, o1.nx σ2 τ2 F2 H2 t2 (hd τ2 hinv)⟩

/-! ### defs and their calls -/
abbrev FS := List Cell → (D → List Cell → Prop) → (Xn → List Cell → Prop) → Prop
/-- what stands behind a call where the own lists were handed in -/
structure CsOk (K : PySem.W.Frag) (H0 F H : Hp) (cs cs' : List Cell) : Prop where
  len : cs'.length = cs.length
  same : ∀ (i : Nat) (p : Addr) (ds : Cont), cs[i]? = some (Cell.own p ds) → ∃ ds', cs'[i]? = some (Cell.own p ds')
  own : OwnOk K F H cs'
  inj : InjOk cs'
  grow : Grow cs H0 cs'
  only : ∀ (i : Nat) (c : Cell) (a : Addr), cs'[i]? = some c → Has c a → ∃ p ds, cs[i]? = some (Cell.own p ds)
def spOf (K : PySem.W.Frag) (n : Nat) (fs : FS) : Sp := fun vs H Q E => vs.length = n ∧ ∃ F cs q e, SOk K F H (vs.map some) cs ∧ fs cs q e ∧
  (∀ v d cs' F' H', Ext cs F H F' H' → Same F' H' → CsOk K H F' H' cs cs' → Rep K F' v d → q d cs' → Q v H') ∧
  (∀ x cls dx cs' F' H', Ext cs F H F' H' → Same F' H' → CsOk K H F' H' cs cs' → XRep K F' H' cls dx x → e x cs' → E cls dx H')
/-- the own parameters are still there -/
def Keeps : List Cell → List Cell → Prop
  | [], _ => True
  | _ :: _, [] => False
  | .own p _ :: cs, c :: τ => (∃ ds', c = .own p ds') ∧ Keeps cs τ
  | .any :: cs, _ :: τ => Keeps cs τ
  | .dat _ :: cs, _ :: τ => Keeps cs τ
def ends : List Cell → List Cell → List Cell
  | [], _ => []
  | cs, [] => cs
  | .own p ds :: cs, c :: τ => c :: ends cs τ
  | .any :: cs, _ :: τ => .any :: ends cs τ
  | .dat d :: cs, _ :: τ => .dat d :: ends cs τ
theorem ends_length : ∀ (cs τ : List Cell), (ends cs τ).length = cs.length
  | [], _ => by unfold ends; rfl
  | .own p ds :: cs, c :: τ => by unfold ends; rw [List.length_cons, List.length_cons, ends_length cs τ]
  | .any :: cs, c :: τ => by unfold ends; rw [List.length_cons, List.length_cons, ends_length cs τ]
  | .dat d :: cs, c :: τ => by unfold ends; rw [List.length_cons, List.length_cons, ends_length cs τ]
  | c :: cs, [] => by cases c <;> rfl
theorem ends_own : ∀ {cs τ : List Cell} {i : Nat} {p : Addr} {ds : Cont}, Keeps cs τ → cs[i]? = some (.own p ds) → ∃ ds', (ends cs τ)[i]? = some (.own p ds') ∧ τ[i]? = some (.own p ds')
  | [], _, i, p, ds, _, h => by simp at h
  | c :: cs, [], i, q, es, k, h => k.elim
  | .own p ds :: cs, c :: τ, 0, q, es, ⟨⟨ds', e⟩, k⟩, h => by
    cases h
    subst e
    exact ⟨ds', rfl, rfl⟩
  | .any :: cs, c :: τ, 0, q, es, k, h => by cases h
  | .dat d :: cs, c :: τ, 0, q, es, k, h => by cases h
  | .own p ds :: cs, c :: τ, i + 1, q, es, ⟨_, k⟩, h => by
    obtain ⟨ds', h1, h2⟩ := ends_own (i := i) k (by simpa using h)
    exact ⟨ds', by unfold ends; simpa using h1, by simpa using h2⟩
  | .any :: cs, c :: τ, i + 1, q, es, k, h => by
    obtain ⟨ds', h1, h2⟩ := ends_own (cs := cs) (τ := τ) (i := i) k (by simpa using h)
    exact ⟨ds', by unfold ends; simpa using h1, by simpa using h2⟩
  | .dat d :: cs, c :: τ, i + 1, q, es, k, h => by
    obtain ⟨ds', h1, h2⟩ := ends_own (cs := cs) (τ := τ) (i := i) k (by simpa using h)
    exact ⟨ds', by unfold ends; simpa using h1, by simpa using h2⟩
theorem ends_has : ∀ {cs τ : List Cell} {i : Nat} {c : Cell} {a : Addr}, Keeps cs τ → (ends cs τ)[i]? = some c → Has c a → τ[i]? = some c ∧ ∃ p ds, cs[i]? = some (.own p ds)
  | [], _, i, c, a, _, h, _ => by simp [ends] at h
  | c :: cs, [], i, d, a, k, h, _ => k.elim
  | .own p ds :: cs, c :: τ, 0, q, es, _, h, _ => by
    have h : c = q := by simpa [ends] using h
    subst h
    exact ⟨rfl, p, ds, rfl⟩
  | .any :: cs, c :: τ, 0, q, es, k, h, f => by
    have h : Cell.any = q := by simpa [ends] using h
    subst h
    exact f.elim
  | .dat d :: cs, c :: τ, 0, q, es, k, h, f => by
    have h : Cell.dat d = q := by simpa [ends] using h
    subst h
    exact f.elim
  | .own p ds :: cs, c :: τ, i + 1, q, es, ⟨_, k⟩, h, f => by
    obtain ⟨h1, p', ds', h2⟩ := ends_has (i := i) k (by simpa [ends] using h) f
    exact ⟨by simpa using h1, p', ds', by simpa using h2⟩
  | .any :: cs, c :: τ, i + 1, q, es, k, h, f => by
    obtain ⟨h1, p', ds', h2⟩ := ends_has (cs := cs) (τ := τ) (i := i) k (by simpa [ends] using h) f
    exact ⟨by simpa using h1, p', ds', by simpa using h2⟩
  | .dat d :: cs, c :: τ, i + 1, q, es, k, h, f => by
    obtain ⟨h1, p', ds', h2⟩ := ends_has (cs := cs) (τ := τ) (i := i) k (by simpa [ends] using h) f
    exact ⟨by simpa using h1, p', ds', by simpa using h2⟩
theorem ends_ok : ∀ {cs τ : List Cell} {i : Nat} {c : Cell}, Keeps cs τ → (ends cs τ)[i]? = some c → c = .any ∨ (∃ d, c = .dat d) ∨ τ[i]? = some c
  | [], _, i, c, _, h => by simp [ends] at h
  | c :: cs, [], i, d, k, h => k.elim
  | .own p ds :: cs, c :: τ, 0, q, _, h => .inr (.inr (by simpa [ends] using h))
  | .any :: cs, c :: τ, 0, q, k, h => .inl (by simpa [ends] using h.symm)
  | .dat d :: cs, c :: τ, 0, q, k, h => .inr (.inl ⟨d, by simpa [ends] using h.symm⟩)
  | .own p ds :: cs, c :: τ, i + 1, q, ⟨_, k⟩, h => by
    have := ends_ok (i := i) (c := q) k (by simpa [ends] using h)
    simpa using this
  | .any :: cs, c :: τ, i + 1, q, k, h => by
    have := ends_ok (cs := cs) (τ := τ) (i := i) (c := q) k (by simpa [ends] using h)
    simpa using this
  | .dat d :: cs, c :: τ, i + 1, q, k, h => by
    have := ends_ok (cs := cs) (τ := τ) (i := i) (c := q) k (by simpa [ends] using h)
    simpa using this
theorem cs_ok {H0 F H : Hp} {cs τ : List Cell} (k : Keeps cs τ) (o : OwnOk K F H τ) (inj : InjOk τ) (g : Grow cs H0 τ) : CsOk K H0 F H cs (ends cs τ) := by
  refine ⟨ends_length cs τ, fun i p ds h => ?_, fun i c h => ?_, fun i j c d a h1 h2 f1 f2 => inj i j c d a (ends_has k h1 f1).1 (ends_has k h2 f2).1 f1 f2, fun a ⟨i, c, h, f⟩ => g a ⟨i, c, (ends_has k h f).1, f⟩, fun i c a h f => (ends_has k h f).2⟩
  · obtain ⟨ds', h1, h2⟩ := ends_own k h
    exact ⟨ds', h1⟩
  · rcases ends_ok k h with rfl | ⟨d, rfl⟩ | h
    · exact trivial
    · exact trivial
    · exact o i c h
theorem own_app {cs : List Cell} {n : Nat} {i : Nat} {c : Cell} (h : (cs ++ List.replicate n Cell.any)[i]? = some c) : c = .any ∨ cs[i]? = some c := by
  by_cases hi : i < cs.length
  · rw [List.getElem?_append_left hi] at h
    exact .inr h
  · rw [List.getElem?_append_right (Nat.le_of_not_lt hi), List.getElem?_replicate] at h
    split at h <;> cases h
    exact .inl rfl
theorem has_app {cs : List Cell} {n : Nat} {i : Nat} {c : Cell} {a : Addr} (h : (cs ++ List.replicate n Cell.any)[i]? = some c) (f : Has c a) : cs[i]? = some c := by
  rcases own_app h with rfl | h
  · exact f.elim
  · exact h
theorem isOwn_app {cs : List Cell} {n : Nat} {p : Addr} (h : IsOwn (cs ++ List.replicate n Cell.any) p) : IsOwn cs p := by
  obtain ⟨i, c, e, f⟩ := h
  exact ⟨i, c, has_app e f, f⟩
theorem app_isOwn {cs : List Cell} {n : Nat} {p : Addr} (h : IsOwn cs p) : IsOwn (cs ++ List.replicate n Cell.any) p := by
  obtain ⟨i, c, e, f⟩ := h
  exact ⟨i, c, by rw [List.getElem?_append_left (List.getElem?_eq_some_iff.mp e).1]; exact e, f⟩
theorem OwnOk.app {F H : Hp} {cs : List Cell} {n : Nat} (o : OwnOk K F H cs) : OwnOk K F H (cs ++ List.replicate n Cell.any) := fun i c h => by
  rcases own_app h with rfl | h
  · exact trivial
  · exact o i c h
theorem InjOk.app {cs : List Cell} {n : Nat} (o : InjOk cs) : InjOk (cs ++ List.replicate n Cell.any) := fun i j c d a h1 h2 f1 f2 => o i j c d a (has_app h1 f1) (has_app h2 f2) f1 f2
theorem Grow.app {cs : List Cell} {n : Nat} {H : Hp} {τ : List Cell} (g : Grow (cs ++ List.replicate n Cell.any) H τ) : Grow cs H τ := fun a h => (g a h).imp isOwn_app id
theorem Ext.app {cs : List Cell} {n : Nat} {F H F' H' : Hp} (x : Ext (cs ++ List.replicate n Cell.any) F H F' H') : Ext cs F H F' H' := by
  refine ⟨x.f, fun a o h => ?_, fun a o h z nt => x.keep a o h (fun q => z (isOwn_app q)) nt, x.there, x.tabs⟩
  rcases x.new a o h with z | z | z
  · exact .inl z
  · exact .inr (.inl z)
  · exact .inr (.inr (isOwn_app z))
end
/-- a def, by its body -/
theorem def_ok {P : Program} {w : World} {K : PySem.W.Frag} {mg : Str → Option Value} {base : Heap} {x qual : Str} {st : Stmt} {f : Addr} {fd : FuncData} {N ps : List Str} {k : Nat} {fs : FS} {wb : SW} (Fn : Fun K x qual st f fd) (S : FnScope N ps (defScope st))
    (hw : ∀ cs q e, cs.length = ps.length → fs cs q e → wb ⟨fun τ => Keeps cs τ ∧ q .non (ends cs τ), fun d τ => Keeps cs τ ∧ q d (ends cs τ), fun _ _ => False, fun _ => False, fun _ => False, fun x τ => Keeps cs τ ∧ e x (ends cs τ)⟩ (cs ++ List.replicate (N.length - ps.length) .any)) 
    (hb : ∀ (cdv : Value) (A : Around) (outer : List Env) (s : Shared) (H : Hp) (E : XK), Room k (A.deeper (envOfC qual (defScope st) s.heap.objs.size f cdv)) → Takes (cxOf (L2.CX P w) P w K mg base N qual (defScope st) f cdv A outer s H E) (fun cls d _ H => E cls d H) →
      ∃ t, PSs (cxOf (L2.CX P w) P w K mg base N qual (defScope st) f cdv A outer s H E) (defBody st) t ∧ DS K (fun cls d _ H => E cls d H) t wb) :
    FnOk P w K mg base (L2.CX P w) (k + 1) f fd ps (spOf K ps.length fs) := by
  refine Fn.okX S (fun vs H Q E h => h.1) (fun cdv A outer s H vs Q E hr h => ?_)
  obtain ⟨t, h1, h2⟩ := hb cdv A outer s H E hr (takes_of rfl rfl rfl rfl)
  refine ⟨t, h1, ?_⟩
  obtain ⟨hl, F, cs, q, e, S0, hf, kq, ke⟩ := h
  have lcs : cs.length = ps.length := by rw [← S0.len, List.length_map]; exact hl
  have S1 : SOk K F H (L2.start N vs) (cs ++ List.replicate (N.length - ps.length) .any) := by
    unfold L2.start
    rw [hl]
    refine ⟨S0.tabs, S0.sub, by simp [lcs, hl], fun i v c e1 e2 => ?_, S0.own.app, S0.inj.app⟩
    by_cases hi : i < cs.length
    · rw [List.getElem?_append_left hi] at e2
      rw [List.getElem?_append_left (by rw [List.length_map, hl, ← lcs]; exact hi)] at e1
      exact S0.slot i v c e1 e2
    · rw [List.getElem?_append_right (Nat.le_of_not_lt hi), List.getElem?_replicate] at e2
      split at e2
      · cases e2; exact trivial
      · cases e2
  refine h2.run _ H _ F _ _ S1 (hw cs q e lcs hf) ⟨fun σ' τ' F' H' u ⟨k, hq⟩ => ?_, fun _ _ _ _ _ z => z, fun _ _ _ _ _ z => z, fun v d τ' F' H' u r ⟨k, hq⟩ => ?_, fun σ' x cls dx τ' F' H' u r ⟨k, hq⟩ => ?_, ?_⟩
  · exact kq .non .non _ F' H' u.ext.app u.ok.sub (cs_ok k u.ok.own u.ok.inj u.grow.app) .non hq
  · exact kq v d _ F' H' u.ext.app u.sub (cs_ok k u.own u.inj u.grow.app) r hq
  · exact ke x cls dx _ F' H' u.ext.app u.ok.sub (cs_ok k u.ok.own u.ok.inj u.grow.app) r hq
  · exact fun _ _ _ _ _ _ _ _ z => False.elim z
/-! .. one that hands back a new list, which nobody else knows -/
abbrev FSF := List Cell → (Cont → List Cell → Prop) → (Xn → List Cell → Prop) → Prop
def spFr (K : PySem.W.Frag) (n : Nat) (fs : FSF) : Sp := fun vs H Q E => vs.length = n ∧ ∃ F cs q e, SOk K F H (vs.map some) cs ∧ fs cs q e ∧
  (∀ p k cs' F' H', Ext cs F H F' H' → Same F' H' → CsOk K H F' H' cs cs' → CellOk K F' H' (.own p k) → (∀ a, Has (.own p k) a → Fr H a ∧ ¬ IsOwn cs' a) → q k cs' → Q (.ref p) H') ∧
  (∀ x cls dx cs' F' H', Ext cs F H F' H' → Same F' H' → CsOk K H F' H' cs cs' → XRep K F' H' cls dx x → e x cs' → E cls dx H')
theorem s_ok {K : PySem.W.Frag} {F H : Hp} {vs : List V} {cs : List Cell} {N ps : List Str} (S0 : SOk K F H (vs.map some) cs) (hl : vs.length = ps.length) : cs.length = ps.length ∧ SOk K F H (L2.start N vs) (cs ++ List.replicate (N.length - ps.length) .any) := by
  have lcs : cs.length = ps.length := by rw [← S0.len, List.length_map]; exact hl
  refine ⟨lcs, ?_⟩
  unfold L2.start
  rw [hl]
  refine ⟨S0.tabs, S0.sub, by simp [lcs, hl], fun i v c e1 e2 => ?_, S0.own.app, S0.inj.app⟩
  by_cases hi : i < cs.length
  · rw [List.getElem?_append_left hi] at e2
    rw [List.getElem?_append_left (by rw [List.length_map, hl, ← lcs]; exact hi)] at e1
    exact S0.slot i v c e1 e2
  · rw [List.getElem?_append_right (Nat.le_of_not_lt hi), List.getElem?_replicate] at e2
    split at e2
    · cases e2; exact trivial
    · cases e2
theorem def_okFr {P : Program} {w : World} {K : PySem.W.Frag} {mg : Str → Option Value} {base : Heap} {x qual : Str} {st : Stmt} {f : Addr} {fd : FuncData} {N ps : List Str} {k : Nat} {fs : FSF} {wb : SW} (Fn : Fun K x qual st f fd) (S : FnScope N ps (defScope st))
    (hw : ∀ cs q e, cs.length = ps.length → fs cs q e → wb ⟨fun _ => False, fun _ _ => False, fun ds τ => Keeps cs τ ∧ q ds (ends cs τ), fun _ => False, fun _ => False, fun x τ => Keeps cs τ ∧ e x (ends cs τ)⟩ (cs ++ List.replicate (N.length - ps.length) .any))
    (hb : ∀ (cdv : Value) (A : Around) (outer : List Env) (s : Shared) (H : Hp) (E : XK), Room k (A.deeper (envOfC qual (defScope st) s.heap.objs.size f cdv)) → Takes (cxOf (L2.CX P w) P w K mg base N qual (defScope st) f cdv A outer s H E) (fun cls d _ H => E cls d H) →
      ∃ t, PSs (cxOf (L2.CX P w) P w K mg base N qual (defScope st) f cdv A outer s H E) (defBody st) t ∧ DS K (fun cls d _ H => E cls d H) t wb) :
    FnOk P w K mg base (L2.CX P w) (k + 1) f fd ps (spFr K ps.length fs) := by
  refine Fn.okX S (fun vs H Q E h => h.1) (fun cdv A outer s H vs Q E hr h => ?_)
  obtain ⟨t, h1, h2⟩ := hb cdv A outer s H E hr (takes_of rfl rfl rfl rfl)
  refine ⟨t, h1, ?_⟩
  obtain ⟨hl, F, cs, q, e, S0, hf, kq, ke⟩ := h
  obtain ⟨lcs, S1⟩ := s_ok (N := N) S0 hl
  refine h2.run _ H _ F _ _ S1 (hw cs q e lcs hf) ⟨fun _ _ _ _ _ z => z.elim, fun _ _ _ _ _ z => z, fun _ _ _ _ _ z => z, fun _ _ _ _ _ _ _ z => z.elim, fun σ' x cls dx τ' F' H' u r ⟨k, hq⟩ => ?_, fun p c τ' F' H' u co n ⟨k, hq⟩ => ?_⟩
  · exact ke x cls dx _ F' H' u.ext.app u.ok.sub (cs_ok k u.ok.own u.ok.inj u.grow.app) r hq
  · exact kq p c _ F' H' u.ext.app u.sub (cs_ok k u.own u.inj u.grow.app) co (fun a f => ⟨(n a f).1, fun ⟨i, d, e, g⟩ => (n a f).2 ⟨i, d, (ends_has k e g).1, g⟩⟩) hq
section
variable {K : PySem.W.Frag} {W : WX}
/-! ### a call -/
inductive Arg where
  | d (d : D) | o (j : Nat)
def slots : List Arg → List Nat
  | [] => []
  | .d _ :: as => slots as
  | .o j :: as => j :: slots as
def cellsOf (τ : List Cell) : List Arg → List Cell
  | [] => []
  | .d d :: as => .dat d :: cellsOf τ as
  | .o j :: as => τ.getD j .any :: cellsOf τ as
def OwnArgs (τ : List Cell) : List Arg → Prop
  | [] => True
  | .d d :: as => OwnArgs τ as
  | .o j :: as => (∃ p es, τ[j]? = some (Cell.own p es)) ∧ OwnArgs τ as
def putBack (τ : List Cell) : List Arg → List Cell → List Cell
  | .o j :: as, c :: cs => putBack (τ.set j c) as cs
  | .d _ :: as, _ :: cs => putBack τ as cs
  | _, _ => τ
inductive ArgsOk (K : PySem.W.Frag) (F : Hp) (σ : L2.St) : List V → List Arg → Prop
  | nil : ArgsOk K F σ [] []
  | d {v : V} {vs : List V} {d : D} {as : List Arg} : Rep K F v d → ArgsOk K F σ vs as → ArgsOk K F σ (v :: vs) (.d d :: as)
  | o {v : V} {vs : List V} {j : Nat} {as : List Arg} : σ[j]? = some (some v) → ArgsOk K F σ vs as → ArgsOk K F σ (v :: vs) (.o j :: as)
theorem ArgsOk.mono {F F' : Hp} {σ : L2.St} (s : Same F F') : ∀ {vs : List V} {as : List Arg}, ArgsOk K F σ vs as → ArgsOk K F' σ vs as
  | _, _, .nil => .nil
  | _, _, .d r t => .d (r.mono s) (ArgsOk.mono s t)
  | _, _, .o e t => .o e (ArgsOk.mono s t)
theorem ArgsOk.length {F : Hp} {σ : L2.St} : ∀ {vs : List V} {as : List Arg}, ArgsOk K F σ vs as → vs.length = as.length
  | _, _, .nil => rfl
  | _, _, .d r t => by rw [List.length_cons, List.length_cons, ArgsOk.length t]
  | _, _, .o e t => by rw [List.length_cons, List.length_cons, ArgsOk.length t]
theorem cellsOf_length (τ : List Cell) : ∀ as, (cellsOf τ as).length = as.length
  | [] => rfl
  | .d d :: as => by unfold cellsOf; rw [List.length_cons, List.length_cons, cellsOf_length τ as]
  | .o d :: as => by unfold cellsOf; rw [List.length_cons, List.length_cons, cellsOf_length τ as]
theorem cellsOf_any {τ : List Cell} : ∀ {as : List Arg} {k : Nat} {c : Cell}, (cellsOf τ as)[k]? = some c → c = .any ∨ (∃ d, c = .dat d) ∨ ∃ j, as[k]? = some (.o j) ∧ τ[j]? = some c
  | [], k, c, h => by simp [cellsOf] at h
  | .d d :: as, 0, c, h => .inr (.inl ⟨d, by simpa [cellsOf] using h.symm⟩)
  | .o j :: as, 0, c, h => by
    have h : τ.getD j .any = c := by simpa [cellsOf] using h
    rw [List.getD_eq_getElem?_getD] at h
    cases e : τ[j]? with
    | none => rw [e] at h; exact .inl h.symm
    | some c' => rw [e] at h; exact .inr (.inr ⟨j, rfl, e.trans (congrArg some h)⟩)
  | .d d :: as, k + 1, c, h => by
    have := cellsOf_any (as := as) (k := k) (c := c) (by simpa [cellsOf] using h)
    simpa using this
  | .o d :: as, k + 1, c, h => by
    have := cellsOf_any (as := as) (k := k) (c := c) (by simpa [cellsOf] using h)
    simpa using this
theorem cellsOf_has {τ : List Cell} {as : List Arg} {k : Nat} {c : Cell} {a : Addr} (h : (cellsOf τ as)[k]? = some c) (f : Has c a) : ∃ j, as[k]? = some (.o j) ∧ τ[j]? = some c := by
  rcases cellsOf_any h with rfl | ⟨d, rfl⟩ | h
  · exact f.elim
  · exact f.elim
  · exact h
theorem mem_slots : ∀ {as : List Arg} {k j : Nat}, as[k]? = some (.o j) → j ∈ slots as
  | [], k, j, h => by simp at h
  | .d d :: as, 0, j, h => by cases h
  | .o i :: as, 0, j, h => by cases h; exact List.mem_cons_self ..
  | .d d :: as, k + 1, j, h => mem_slots (as := as) (k := k) (by simpa using h)
  | .o i :: as, k + 1, j, h => List.mem_cons_of_mem _ (mem_slots (as := as) (k := k) (by simpa using h))
theorem cellsOf_isOwn {τ : List Cell} {as : List Arg} {a : Addr} (h : IsOwn (cellsOf τ as) a) : ∃ j c, j ∈ slots as ∧ τ[j]? = some c ∧ Has c a := by
  obtain ⟨k, c, e, f⟩ := h
  obtain ⟨j, e1, e2⟩ := cellsOf_has e f
  exact ⟨j, c, mem_slots e1, e2, f⟩
theorem slots_mem : ∀ {as : List Arg} {j : Nat}, j ∈ slots as → ∃ k : Nat, as[k]? = some (Arg.o j)
  | [], j, h => by simp [slots] at h
  | .d d :: as, j, h => by
    obtain ⟨k, e⟩ := slots_mem (as := as) h
    exact ⟨k + 1, by simpa using e⟩
  | .o i :: as, j, h => by
    rcases List.mem_cons.mp h with rfl | h
    · exact ⟨0, rfl⟩
    · obtain ⟨k, e⟩ := slots_mem (as := as) h
      exact ⟨k + 1, by simpa using e⟩
theorem slot_inj : ∀ {as : List Arg} {k l j : Nat}, (slots as).Nodup → as[k]? = some (.o j) → as[l]? = some (.o j) → k = l
  | [], k, l, j, _, h, _ => by simp at h
  | .d d :: as, 0, l, j, _, h, _ => by cases h
  | .d d :: as, k, 0, j, _, _, h => by cases h
  | .d d :: as, k + 1, l + 1, j, nd, h, h' => congrArg (· + 1) (slot_inj (as := as) (k := k) (l := l) nd (by simpa using h) (by simpa using h'))
  | .o i :: as, 0, 0, j, _, _, _ => rfl
  | .o i :: as, 0, l + 1, j, nd, h, h' => by
    cases h
    exact absurd (mem_slots (as := as) (k := l) (by simpa using h')) (List.nodup_cons.mp nd).1
  | .o i :: as, k + 1, 0, j, nd, h, h' => by
    cases h'
    exact absurd (mem_slots (as := as) (k := k) (by simpa using h)) (List.nodup_cons.mp nd).1
  | .o i :: as, k + 1, l + 1, j, nd, h, h' => congrArg (· + 1) (slot_inj (as := as) (k := k) (l := l) (List.nodup_cons.mp nd).2 (by simpa using h) (by simpa using h'))
theorem putBack_out : ∀ {as : List Arg} {cs τ : List Cell} {i : Nat}, i ∉ slots as → (putBack τ as cs)[i]? = τ[i]?
  | [], cs, τ, i, _ => by cases cs <;> rfl
  | .d d :: as, [], τ, i, h => rfl
  | .o d :: as, [], τ, i, h => rfl
  | .d d :: as, c :: cs, τ, i, h => putBack_out (as := as) h
  | .o j :: as, c :: cs, τ, i, h => by
    have h' : i ≠ j ∧ i ∉ slots as := by simpa [slots] using h
    show (putBack (τ.set j c) as cs)[i]? = _
    rw [putBack_out (as := as) h'.2, List.getElem?_set_ne (Ne.symm h'.1)]
theorem putBack_length : ∀ {as : List Arg} {cs τ : List Cell}, (putBack τ as cs).length = τ.length
  | [], cs, τ => by cases cs <;> rfl
  | .d d :: as, [], τ => rfl
  | .o d :: as, [], τ => rfl
  | .d d :: as, c :: cs, τ => putBack_length (as := as)
  | .o j :: as, c :: cs, τ => by
    show (putBack (τ.set j c) as cs).length = _
    rw [putBack_length (as := as), List.length_set]
theorem putBack_in : ∀ {as : List Arg} {cs τ : List Cell} {i k : Nat} {c : Cell}, (slots as).Nodup → i < τ.length → as[k]? = some (.o i) → cs[k]? = some c → (putBack τ as cs)[i]? = some c
  | [], cs, τ, i, k, c, _, _, h, _ => by simp at h
  | .d d :: as, [], τ, i, k, c, _, _, h, h' => by simp at h'
  | .o d :: as, [], τ, i, k, c, _, _, h, h' => by simp at h'
  | .d d :: as, b :: cs, τ, i, 0, c, _, _, h, _ => by cases h
  | .d d :: as, b :: cs, τ, i, k + 1, c, nd, hi, h, h' => putBack_in (as := as) (k := k) nd hi (by simpa using h) (by simpa using h')
  | .o j :: as, b :: cs, τ, i, 0, c, nd, hi, h, h' => by
    cases h
    cases h'
    show (putBack (τ.set _ _) as cs)[_]? = _
    rw [putBack_out (List.nodup_cons.mp nd).1, List.getElem?_set_self hi]
  | .o j :: as, b :: cs, τ, i, k + 1, c, nd, hi, h, h' => putBack_in (as := as) (k := k) (List.nodup_cons.mp nd).2 (by rw [List.length_set]; exact hi) (by simpa using h) (by simpa using h')
theorem ownArgs_at {τ : List Cell} : ∀ {as : List Arg} {k j : Nat}, OwnArgs τ as → as[k]? = some (.o j) → ∃ p es, τ[j]? = some (Cell.own p es)
  | [], k, j, _, h => by simp at h
  | .d d :: as, 0, j, _, h => by cases h
  | .o i :: as, 0, j, h, e => by cases e; exact h.1
  | .d d :: as, k + 1, j, h, e => ownArgs_at (as := as) (k := k) h (by simpa using e)
  | .o i :: as, k + 1, j, h, e => ownArgs_at (as := as) (k := k) h.2 (by simpa using e)
theorem cellsOf_at {τ : List Cell} : ∀ {as : List Arg} {k j : Nat} {p : Addr} {es : Cont}, as[k]? = some (.o j) → τ[j]? = some (Cell.own p es) → (cellsOf τ as)[k]? = some (.own p es)
  | [], k, j, p, es, h, _ => by simp at h
  | .d d :: as, 0, j, p, es, h, _ => by cases h
  | .o i :: as, 0, j, p, es, h, e => by
    cases h
    show some (τ.getD _ .any) = _
    rw [List.getD_eq_getElem?_getD, e]
    rfl
  | .d d :: as, k + 1, j, p, es, h, e => by
    show (cellsOf τ as)[k]? = _
    exact cellsOf_at (as := as) (by simpa using h) e
  | .o i :: as, k + 1, j, p, es, h, e => by
    show (cellsOf τ as)[k]? = _
    exact cellsOf_at (as := as) (by simpa using h) e
/-- the cells of the arguments describe the values -/
theorem args_slot {F H : Hp} {σ : L2.St} {τ : List Cell} (S : SOk K F H σ τ) : ∀ {vs : List V} {as : List Arg}, ArgsOk K F σ vs as → ∀ (i : Nat) (s : Option V) (c : Cell), (vs.map some)[i]? = some s → (cellsOf τ as)[i]? = some c → SlotOk K F s c
  | _, _, .nil, i, s, c, h, _ => by simp at h
  | _, _, .d (v := v) r t, 0, s, c, h, h' => by
    cases h
    cases h'
    exact ⟨v, rfl, r⟩
  | _, _, .o (v := v) (j := j) e t, 0, s, c, h, h' => by
    cases h
    have h' : τ.getD j .any = c := by simpa [cellsOf] using h'
    rw [List.getD_eq_getElem?_getD] at h'
    cases q : τ[j]? with
    | none => rw [q] at h'; cases h'; exact trivial
    | some c' =>
      rw [q] at h'
      have h' : c' = c := h'
      subst h'
      exact S.slot j _ _ e q
  | _, _, .d r t, i + 1, s, c, h, h' => args_slot S t i s c (by simpa using h) (by simpa [cellsOf] using h')
  | _, _, .o e t, i + 1, s, c, h, h' => args_slot S t i s c (by simpa using h) (by simpa [cellsOf] using h')
abbrev AcW := List Cell → (List Arg → List Cell → Prop) → (Xn → List Cell → Prop) → Prop
structure DAc (K : PySem.W.Frag) (W : WX) (t : TA) (w : AcW) : Prop where
  run : ∀ σ H τ F Q q e, SOk K F H σ τ → w τ q e → (∀ vs as τ' F' H', To K F H σ τ F' H' τ' → ArgsOk K F' σ vs as → q as τ' → Q vs H') → XTo K W F H σ τ e → t σ H Q
def wcNil : AcW := fun τ q _ => q [] τ
def wcCons (we : EW) (wa : AcW) : AcW := fun τ q e => we τ (fun d τ1 => wa τ1 (fun as τ2 => q (.d d :: as) τ2) e) e
def wcOwn (j : Nat) (wa : AcW) : AcW := fun τ q e => (∃ p es, τ[j]? = some (Cell.own p es)) ∧ wa τ (fun as τ2 => q (.o j :: as) τ2) e
theorem dac_nil : DAc K W tNil wcNil := ⟨fun σ H τ F Q q e S hq k _ => k [] [] τ F H (.refl S) .nil hq⟩
theorem dac_cons {t : TE} {u : TA} {w : EW} {v : AcW} (h : DE K W t w) (g : DAc K W u v) : DAc K W (tCons t u) (wcCons w v) := by
  refine ⟨fun σ H τ F Q q e S hw k x => h.run σ H τ F _ _ e S hw (fun z d τ' F' H' t' r h1 => ?_) x⟩
  refine g.run σ H' τ' F' _ _ e t'.ok h1 (fun zs ds τ2 F2 H2 t2 r2 hq => ?_) (x.of t')
  exact k (z :: zs) (.d d :: ds) τ2 F2 H2 (t'.trans t2) (.d (r.mono t2.ext.f) r2) hq
theorem dac_own {j : Nat} {u : TA} {v : AcW} (g : DAc K W u v) : DAc K W (tCons (tVar j) u) (wcOwn j v) := by
  refine ⟨fun σ H τ F Q q e S ⟨⟨p, es, e0⟩, hw⟩ k x => ?_⟩
  obtain ⟨s0, _⟩ := own_at S e0
  refine ⟨.ref p, s0, ?_⟩
  refine g.run σ H τ F _ _ e S hw (fun zs ds τ2 F2 H2 t2 r2 hq => ?_) x
  exact k (.ref p :: zs) (.o j :: ds) τ2 F2 H2 t2 (.o s0 r2) hq
def wCall (n : Nat) (fs : FS) (wa : AcW) : EW := fun τ q e => wa τ (fun as τ' => as.length = n ∧ (slots as).Nodup ∧ OwnArgs τ' as ∧ fs (cellsOf τ' as) (fun d cs' => q d (putBack τ' as cs')) (fun x cs' => e x (putBack τ' as cs'))) e
theorem putBack_alt {H F' H' : Hp} {τ cs' : List Cell} {as : List Arg} (nd : (slots as).Nodup) (oa : OwnArgs τ as) (c : CsOk K H F' H' (cellsOf τ as) cs') (i : Nat) :
    (i ∉ slots as ∧ (putBack τ as cs')[i]? = τ[i]?) ∨ (∃ (k : Nat) (p : Addr) (ds ds' : Cont), as[k]? = some (Arg.o i) ∧ τ[i]? = some (Cell.own p ds) ∧ cs'[k]? = some (Cell.own p ds') ∧ (putBack τ as cs')[i]? = some (Cell.own p ds')) := by
  by_cases h : i ∈ slots as
  · obtain ⟨k, e⟩ := slots_mem h
    obtain ⟨p, es, e1⟩ := ownArgs_at oa e
    obtain ⟨ds', e2⟩ := c.same k p es (cellsOf_at e e1)
    exact .inr ⟨k, p, es, ds', e, e1, e2, putBack_in nd (List.getElem?_eq_some_iff.mp e1).1 e e2⟩
  · exact .inl ⟨h, putBack_out h⟩
theorem putBack_isOwn {H F' H' : Hp} {τ cs' : List Cell} {as : List Arg} (nd : (slots as).Nodup) (oa : OwnArgs τ as) (c : CsOk K H F' H' (cellsOf τ as) cs') {a : Addr} (h : IsOwn (putBack τ as cs') a) :
    (∃ i d, i ∉ slots as ∧ τ[i]? = some d ∧ Has d a) ∨ IsOwn cs' a := by
  obtain ⟨i, d, e, f⟩ := h
  rcases putBack_alt nd oa c i with ⟨n, z⟩ | ⟨k, p, ds, ds', z1, z2, z3, z4⟩
  · exact .inl ⟨i, d, n, by rw [← z]; exact e, f⟩
  · rw [e] at z4
    cases z4
    exact .inr ⟨k, _, z3, f⟩
theorem call_to {F H F' H' F0 H0 : Hp} {σ : L2.St} {τ τ0 cs' : List Cell} {as : List Arg} (t : To K F0 H0 σ τ0 F H τ) (nd : (slots as).Nodup) (oa : OwnArgs τ as) (x : Ext (cellsOf τ as) F H F' H') (sub : Same F' H') (c : CsOk K H F' H' (cellsOf τ as) cs') :
    To K F0 H0 σ τ0 F' H' (putBack τ as cs') := by
  have alt := putBack_alt nd oa c
  have cown : ∀ {p : Addr}, IsOwn (cellsOf τ as) p → IsOwn τ p := fun {p} h => by
    obtain ⟨j, d, _, e, f⟩ := cellsOf_isOwn h
    exact ⟨j, d, e, f⟩
  -- what a cell that was not handed in has is not the call's
  have apart : ∀ {i : Nat} {d : Cell} {a : Addr}, i ∉ slots as → τ[i]? = some d → Has d a → ¬ IsOwn (cellsOf τ as) a := fun {i d a} n e f h => by
    obtain ⟨j, d', m, e', f'⟩ := cellsOf_isOwn h
    rw [t.ok.inj i j d d' a e e' f f'] at n
    exact n m
  have xt : Ext τ F H F' H' := by
    refine ⟨x.f, fun a o h => ?_, fun a o h z nt => x.keep a o h (fun q => z (cown q)) nt, x.there, x.tabs⟩
    rcases x.new a o h with z | z | z
    · exact .inl z
    · exact .inr (.inl z)
    · exact .inr (.inr (cown z))
  have gr : Grow τ H (putBack τ as cs') := fun a h => by
    rcases putBack_isOwn nd oa c h with ⟨i, d, _, e, f⟩ | h
    · exact .inl ⟨i, d, e, f⟩
    · exact (c.grow a h).imp cown id
  refine To.trans t (σ' := σ) ⟨xt, gr, ⟨xt.tabs t.ok.tabs, sub, by rw [putBack_length]; exact t.ok.len, fun i s cc h1 h2 => ?_, fun i d h => ?_, fun i j d e a h1 h2 f1 f2 => ?_⟩⟩
  · rcases alt i with ⟨_, e⟩ | ⟨k, q, ds, ds2, _, e1, _, e2⟩
    · rw [e] at h2
      exact (t.ok.slot i s cc h1 h2).mono x.f
    · rw [h2] at e2
      cases e2
      exact (show s = some (.ref q) from t.ok.slot i s _ h1 e1)
  · rcases alt i with ⟨hn, e⟩ | ⟨k, q, ds1, ds2, _, e1, e2, e3⟩
    · rw [e] at h
      refine (t.ok.own i d h).move x.f fun a f => ?_
      obtain ⟨g1, u, g2, g3⟩ := (t.ok.own i d h).has f
      have na := apart hn h f
      refine ⟨?_, fun o ho nt => x.keep a o ho na nt⟩
      cases q : F' a with
      | none => rfl
      | some o =>
        rcases x.new a o q with z | z | z
        · rw [g1] at z; cases z
        · exact (z _ g2 g3).elim
        · exact absurd z na
    · rw [h] at e3
      cases e3
      exact c.own k _ e2
  · have cross : ∀ {i j : Nat} {d e : Cell}, i ∉ slots as → τ[i]? = some d → Has d a → ∀ k, cs'[k]? = some e → Has e a → False := fun {i j d e} n z f k z' f' => by
      rcases c.grow a ⟨k, e, z', f'⟩ with y | y
      · exact apart n z f y
      · obtain ⟨_, u, g2, g3⟩ := (t.ok.own i d z).has f
        exact y u g2 g3
    rcases alt i with ⟨n1, z1⟩ | ⟨k1, p1, ds1, ds1', y1, y2, y3, y4⟩
    · rw [z1] at h1
      rcases alt j with ⟨n2, z2⟩ | ⟨k2, p2, ds2, ds2', x1, x2, x3, x4⟩
      · rw [z2] at h2
        exact t.ok.inj i j d e a h1 h2 f1 f2
      · rw [h2] at x4
        cases x4
        exact (cross (j := j) n1 h1 f1 k2 x3 f2).elim
    · rw [h1] at y4
      cases y4
      rcases alt j with ⟨n2, z2⟩ | ⟨k2, p2, ds2, ds2', x1, x2, x3, x4⟩
      · rw [z2] at h2
        exact (cross (j := i) n2 h2 f2 k1 y3 f1).elim
      · rw [h2] at x4
        cases x4
        have := c.inj k1 k2 _ _ a y3 x3 f1 f2
        subst this
        rw [y1] at x1
        cases x1
        rfl
theorem pre_call {F H F0 H0 : Hp} {σ : L2.St} {τ τ0 : List Cell} {vs : List V} {as : List Arg} (t : To K F0 H0 σ τ0 F H τ) (a : ArgsOk K F σ vs as) (nd : (slots as).Nodup) : SOk K F H (vs.map some) (cellsOf τ as) := by
  refine ⟨t.ok.tabs, t.ok.sub, by rw [List.length_map, cellsOf_length, a.length], args_slot t.ok a, fun i c e0 => ?_, fun i j c d x e1 e2 f1 f2 => ?_⟩
  · rcases cellsOf_any e0 with rfl | ⟨d, rfl⟩ | ⟨j, _, e2⟩
    · exact trivial
    · exact trivial
    · exact t.ok.own j c e2
  · obtain ⟨k1, a1, b1⟩ := cellsOf_has e1 f1
    obtain ⟨k2, a2, b2⟩ := cellsOf_has e2 f2
    have ek := t.ok.inj k1 k2 c d x b1 b2 f1 f2
    subst ek
    exact slot_inj nd a1 a2
theorem de_call {n : Nat} {fs : FS} {t : TA} {w : AcW} (h : DAc K W t w) : DE K W (tCallS (spOf K n fs) (L2.WE W) t) (wCall n fs w) := by
  refine ⟨fun σ H τ F Q q e S hw k x => h.run σ H τ F _ _ e S hw (fun vs as τ' F' H' t' a ⟨hl, nd, oa, hf⟩ => ?_) x⟩
  exact ⟨by rw [a.length]; exact hl, F', cellsOf τ' as, _, _, pre_call t' a nd, hf, fun v d cs' F2 H2 x2 s2 c2 r2 hq => k v d _ F2 H2 (call_to t' nd oa x2 s2 c2) r2 hq, fun y cls dx cs' F2 H2 x2 s2 c2 r2 hq => x y cls dx _ F2 H2 (call_to t' nd oa x2 s2 c2) r2 hq⟩
/-- x = f(..), f hands back a new list: it becomes an own one -/
def wCallOwn (i n : Nat) (fs : FSF) (wa : AcW) : SW := fun E τ => wa τ (fun as τ' => as.length = n ∧ (slots as).Nodup ∧ OwnArgs τ' as ∧ fs (cellsOf τ' as) (fun k cs' => ∀ p, E.nx ((putBack τ' as cs').set i (.own p k))) (fun x cs' => E.ex x (putBack τ' as cs'))) E.ex
theorem ds_callOwn {i n : Nat} {fs : FSF} {t : TA} {w : AcW} (h : DAc K W t w) : DS K W (tAsg (tCallS (spFr K n fs) (L2.WE W) t) (gName i)) (wCallOwn i n fs w) := by
  refine ⟨fun σ H τ F Dn E S hw o => h.run σ H τ F _ _ E.ex S hw (fun vs as τ' F' H' t' a ⟨hl, nd, oa, hf⟩ => ?_) o.xto⟩
  refine ⟨by rw [a.length]; exact hl, F', cellsOf τ' as, _, _, pre_call t' a nd, hf, fun p k cs' F2 H2 x2 s2 c2 ck nk hq => ?_, fun y cls dx cs' F2 H2 x2 s2 c2 r2 hq => ?_⟩
  · have T := call_to t' nd oa x2 s2 c2
    have nO : ∀ b, Has (.own p k) b → ¬ IsOwn (putBack τ' as cs') b := fun b f z => by
      rcases putBack_isOwn nd oa c2 z with ⟨j, d, _, e, g⟩ | z
      · obtain ⟨_, u, g2, g3⟩ := (t'.ok.own j d e).has g
        exact (nk b f).1 u g2 g3
      · exact (nk b f).2 z
    exact o.nx _ _ F2 H2 ⟨T.ext, grow_set T fun b f => t'.back (nk b f).1, T.ok.setOwn ck nO⟩ (hq p)
  · exact o.ex σ y cls dx _ F2 H2 (call_to t' nd oa x2 s2 c2) r2 hq
end
end L3

/-! ## more operations -/
namespace L3
open PySem PySem.Spec PyProof.Rows L2
variable [TB : TabT]
section
variable {K : PySem.W.Frag} {W : WX}
theorem de_ty {n : String} : DE K W (tC (.ty n)) (wC (.ty n)) := de_c fun _ => .ty n
def wNeg (we : EW) : EW := fun τ q e => we τ (fun d τ' => ∃ i, d = .int i ∧ q (.int (-i)) τ') e
theorem de_neg {t : TE} {w : EW} (h : DE K W t w) : DE K W (tUn (rU fun i => .int (-i)) t) (wNeg w) := by
  refine ⟨fun σ H τ F Q q e S hw k x => h.run σ H τ F _ _ e S hw (fun v d τ' F' H' t' r ⟨i, e', hq⟩ => ?_) x⟩
  subst e'
  exact ⟨i, r.int_of, k _ _ τ' F' H' t' (.int _) hq⟩
/-- plain things, compared by their values -/
def scD : D → Option V
  | .non => some .non | .bl b => some (.bl b) | .int i => some (.int i) | .str x => some (.str x) | _ => none
theorem sc_of {F : Hp} {v u : V} {d : D} (r : Rep K F v d) (h : scD d = some u) : v = u := by
  cases r <;> cases h <;> rfl
def gEq : D → D → (D → Prop) → Prop := fun x y q => ∃ v u, scD x = some v ∧ scD y = some u ∧ scal v u = true ∧ q (.bl (decide (v = u)))
def gNe : D → D → (D → Prop) → Prop := fun x y q => ∃ v u, scD x = some v ∧ scD y = some u ∧ scal v u = true ∧ q (.bl (!decide (v = u)))
theorem o_eq : Op2 K rEq gEq := by
  rintro F H x y d1 d2 q Q s r1 r2 ⟨v, u, e1, e2, hs, hq⟩ k
  rw [sc_of r1 e1, sc_of r2 e2]
  exact ⟨hs, k _ _ F H (.refl _ _ _) s (.bl _) hq⟩
theorem o_ne : Op2 K rNe gNe := by
  rintro F H x y d1 d2 q Q s r1 r2 ⟨v, u, e1, e2, hs, hq⟩ k
  rw [sc_of r1 e1, sc_of r2 e2]
  exact ⟨hs, k _ _ F H (.refl _ _ _) s (.bl _) hq⟩
def isNonD : D → Bool | .non => true | _ => false
theorem non_iff {F : Hp} {v : V} {d : D} (r : Rep K F v d) : decide (v = .non) = isNonD d := by
  cases r <;> simp [isNonD]
def rIsN : R2 := fun x y H Q => y = .non ∧ Q (.bl (decide (x = .non))) H
def rNotN : R2 := fun x y H Q => y = .non ∧ Q (.bl (!decide (x = .non))) H
def gIsN : D → D → (D → Prop) → Prop := fun x y q => y = .non ∧ q (.bl (isNonD x))
def gNotN : D → D → (D → Prop) → Prop := fun x y q => y = .non ∧ q (.bl (!isNonD x))
theorem o_isN : Op2 K rIsN gIsN := by
  rintro F H x y d1 d2 q Q s r1 r2 ⟨rfl, hq⟩ k
  cases r2
  exact ⟨rfl, by rw [non_iff r1]; exact k _ _ F H (.refl _ _ _) s (.bl _) hq⟩
theorem o_notN : Op2 K rNotN gNotN := by
  rintro F H x y d1 d2 q Q s r1 r2 ⟨rfl, hq⟩ k
  cases r2
  exact ⟨rfl, by rw [non_iff r1]; exact k _ _ F H (.refl _ _ _) s (.bl _) hq⟩
mutual
def toPy : D → Option PyData
  | .non => some .none | .bl b => some (.bool b) | .int i => some (.int i) | .str x => some (.str x)
  | .tup ds => (toPys ds).map .tuple | .lst ds => (toPys ds).map .list | .fl ds => (toPys ds).map .list | _ => none
def toPys : List D → Option (List PyData)
  | [] => some []
  | d :: ds => (toPy d).bind fun p => (toPys ds).map fun ps => p :: ps
end
mutual
theorem dp_of {F : Hp} : ∀ {d : D} {v : V} {p : PyData}, Rep K F v d → toPy d = some p → Dp K F v p
  | .non, _, _, r, h => by cases r; cases h; exact .non
  | .bl b, _, _, r, h => by cases r; cases h; exact .bl b
  | .int b, _, _, r, h => by cases r; cases h; exact .int b
  | .str b, _, _, r, h => by cases r; cases h; exact .str b
  | .tup ds, _, p, r, h => by
    cases r with
    | tup hs r =>
      have h : (toPys ds).map PyData.tuple = some p := by rw [← h]; rfl
      cases e : toPys ds with
      | none => rw [e] at h; cases h
      | some ps => rw [e] at h; cases h; exact .tup hs (dps_of r e)
  | .lst ds, _, p, r, h => by
    cases r with
    | lst hs r =>
      have h : (toPys ds).map PyData.list = some p := by rw [← h]; rfl
      cases e : toPys ds with
      | none => rw [e] at h; cases h
      | some ps => rw [e] at h; cases h; exact .lst (.inl (.inl hs)) (dps_of r e)
  | .fl ds, _, p, r, h => by
    cases r with
    | fl hs r =>
      have h : (toPys ds).map PyData.list = some p := by rw [← h]; rfl
      cases e : toPys ds with
      | none => rw [e] at h; cases h
      | some ps => rw [e] at h; cases h; exact .lst hs (dps_of r e)
  | .ty n, _, _, r, h => by cases h
  | .oth n, _, _, r, h => by cases h
  | .ins c n, _, _, r, h => by cases h
  | .adr q, _, _, r, h => by cases h
theorem dps_of {F : Hp} : ∀ {ds : List D} {vs : List V} {ps : List PyData}, Reps K F vs ds → toPys ds = some ps → DpAll K F vs ps
  | [], _, _, r, h => by cases r; cases h; exact .nil
  | d :: ds, _, ps, r, h => by
    cases r with
    | cons r1 r2 =>
      have h : ((toPy d).bind fun p => (toPys ds).map fun ps => p :: ps) = some ps := by rw [← h]; rfl
      cases e : toPy d with
      | none => rw [e] at h; cases h
      | some p =>
        rw [e] at h
        cases e2 : toPys ds with
        | none => rw [e2] at h; cases h
        | some qs => rw [e2] at h; cases h; exact .cons (dp_of r1 e) (dps_of r2 e2)
end
mutual
theorem Dp_mono {F F' : Hp} (s : Same F F') : ∀ {v : V} {p : PyData}, Dp K F v p → Dp K F' v p
  | _, _, .non => .non
  | _, _, .bl b => .bl b
  | _, _, .int i => .int i
  | _, _, .str x => .str x
  | _, _, .tup h r => .tup (SqT_mono s h) (DpAll_mono s r)
  | _, _, .lst h r => .lst (s.seq h) (DpAll_mono s r)
theorem DpAll_mono {F F' : Hp} (s : Same F F') : ∀ {vs : List V} {ps : List PyData}, DpAll K F vs ps → DpAll K F' vs ps
  | _, _, .nil => .nil
  | _, _, .cons h r => .cons (Dp_mono s h) (DpAll_mono s r)
end
/-- things of any depth, compared by their values -/
def gEqD : D → D → (D → Prop) → Prop := fun x y q => ∃ v u, toPy x = some v ∧ toPy y = some u ∧ SeqAt.shaped v = true ∧ SeqAt.shaped u = true ∧ q (.bl (PyData.eqv v u))
def gNeD : D → D → (D → Prop) → Prop := fun x y q => ∃ v u, toPy x = some v ∧ toPy y = some u ∧ SeqAt.shaped v = true ∧ SeqAt.shaped u = true ∧ q (.bl (!PyData.eqv v u))
theorem o_eqD : Op2 K (rEqD K) gEqD := by
  rintro F H x y d1 d2 q Q s r1 r2 ⟨v, u, e1, e2, h1, h2, hq⟩ k
  exact ⟨v, u, Dp_mono s (dp_of r1 e1), Dp_mono s (dp_of r2 e2), h1, h2, k _ _ F H (.refl _ _ _) s (.bl _) hq⟩
theorem o_neD : Op2 K (rNeD K) gNeD := by
  rintro F H x y d1 d2 q Q s r1 r2 ⟨v, u, e1, e2, h1, h2, hq⟩ k
  exact ⟨v, u, Dp_mono s (dp_of r1 e1), Dp_mono s (dp_of r2 e2), h1, h2, k _ _ F H (.refl _ _ _) s (.bl _) hq⟩
end
end L3

/-! ## names for the generated texts -/
namespace L3
open PySem PySem.Spec PyProof.Rows L2
variable [TB : TabT]
abbrev rAddI : R2 := rI0 fun i j => .int (i + j)
abbrev rSubI : R2 := rI0 fun i j => .int (i - j)
abbrev rLtI : R2 := rI0 fun i j => .bl (decide (i < j))
abbrev rLeI : R2 := rI0 fun i j => .bl (decide (i ≤ j))
abbrev rGtI : R2 := rI0 fun i j => .bl (decide (j < i))
abbrev rGeI : R2 := rI0 fun i j => .bl (decide (j ≤ i))
abbrev rNegI : V → Hp → VK → Prop := rU fun i => .int (-i)
def CMulA (i j : Int) : Prop := CMul i j ∨ CMulW i j
abbrev rMulA : R2 := rI CMulA fun i j => .int (i * j)
abbrev rDivW : R2 := rI CDivW fun i j => .int (i / j)
abbrev rModI : R2 := rI (fun _ j => 0 < j) fun i j => .int (i % j)
abbrev rPowI : R2 := rI CPow fun i j => .int (i ^ j.toNat)
theorem op_mulA {X : Cx} : OpR X (binaryOp .Mult) rMulA := opI fun _ _ _ _ _ _ _ hc q => mul_int q (hc.elim (fun z => z.ok) fun z => z.ok)
abbrev gAddI := g2I fun i j => .int (i + j)
abbrev gSubI := g2I fun i j => .int (i - j)
abbrev gLtI := g2I fun i j => .bl (decide (i < j))
abbrev gLeI := g2I fun i j => .bl (decide (i ≤ j))
abbrev gGtI := g2I fun i j => .bl (decide (j < i))
abbrev gGeI := g2I fun i j => .bl (decide (j ≤ i))
abbrev gMulA := g2IC CMulA fun i j => .int (i * j)
abbrev gDivW := g2IC CDivW fun i j => .int (i / j)
abbrev gModI := g2IC (fun _ j => 0 < j) fun i j => .int (i % j)
abbrev gPowI := g2IC CPow fun i j => .int (i ^ j.toNat)
/-- what is never reached -/
def wNever : SW := fun _ _ => False
theorem ps_neverS {X : Cx} {sts : List Stmt} : PSs X sts tNever := ⟨fun _ _ _ _ _ _ h => h.elim⟩
theorem ps_never1 {X : Cx} {st : Stmt} : PS X st tNever := ⟨fun _ _ _ _ _ _ h => h.elim⟩
theorem ds_neverS {K : PySem.W.Frag} {W : WX} : DS K W tNever wNever := ⟨fun _ _ _ _ _ _ _ h _ => h.elim⟩
section
variable {K : PySem.W.Frag}
theorem o_mulA : Op2 K rMulA gMulA := op2IC fun _ _ _ => .int _
theorem o_fdivW : Op2 K rDivW gDivW := op2IC fun _ _ _ => .int _
end
def PureD (np m : Nat) (fs : FS) (wb : SW) : Prop := ∀ cs q e, cs.length = np → fs cs q e →
  wb ⟨fun τ => Keeps cs τ ∧ q .non (ends cs τ), fun d τ => Keeps cs τ ∧ q d (ends cs τ), fun _ _ => False, fun _ => False, fun _ => False, fun x τ => Keeps cs τ ∧ e x (ends cs τ)⟩ (cs ++ List.replicate m .any)
def PureF (np m : Nat) (fs : FSF) (wb : SW) : Prop := ∀ cs q e, cs.length = np → fs cs q e →
  wb ⟨fun _ => False, fun _ _ => False, fun ds τ => Keeps cs τ ∧ q ds (ends cs τ), fun _ => False, fun _ => False, fun x τ => Keeps cs τ ∧ e x (ends cs τ)⟩ (cs ++ List.replicate m .any)
theorem cmul_l {i j : Int} (h1 : -(2 ^ 64) < i) (h2 : i < 2 ^ 64) : CMulA i j := .inl (.inl ⟨h1, h2⟩)
theorem cmul_r {i j : Int} (h1 : -(2 ^ 64) < j) (h2 : j < 2 ^ 64) : CMulA i j := .inl (.inr ⟨h1, h2⟩)
end L3

/-! ## words for the pure part -/
namespace L3
open PySem PySem.Spec PyProof.Rows L2
variable [TB : TabT]
section
variable {K : PySem.W.Frag}
def isiD : D → String → Bool
  | .bl _, n => n == "bool" || n == "int"
  | .int _, n => n == "int"
  | .str _, n => n == "str"
  | .tup _, n => n == "tuple"
  | .lst _, n => n == "list"
  | .fl _, n => n == "list"
  | _, _ => false
abbrev kinds : List String := ["int", "bool", "str", "tuple", "list"]
mutual
def OkD (K : PySem.W.Frag) : D → Prop
  | .ty _ => False
  | .ins C _ => InsTy K C ∧ ∀ n ∈ kinds, PySem.W.kitOne K (.ref C) (.type n) = some false
  | .adr _ => False
  | .oth t => ∀ n ∈ kinds, PySem.W.kitOne K t (.type n) = some false
  | .tup ds => OkDs K ds
  | .lst ds => OkDs K ds
  | .fl ds => OkDs K ds
  | .non => True
  | .bl _ => True
  | .int _ => True
  | .str _ => True
def OkDs (K : PySem.W.Frag) : List D → Prop
  | [] => True
  | d :: ds => OkD K d ∧ OkDs K ds
end
theorem okDs_mem : ∀ {ds : List D} {d : D}, OkDs K ds → d ∈ ds → OkD K d
  | [], d, _, h => by simp at h
  | x :: ds, d, h, hd => by
    have h : OkD K x ∧ OkDs K ds := by unfold OkDs at h; exact h
    rcases List.mem_cons.mp hd with rfl | hd
    · exact h.1
    · exact okDs_mem h.2 hd
theorem okDs_of : ∀ {ds : List D}, (∀ d ∈ ds, OkD K d) → OkDs K ds
  | [], _ => by unfold OkDs; trivial
  | x :: ds, h => by
    unfold OkDs
    exact ⟨h x (List.mem_cons_self ..), okDs_of fun d hd => h d (List.mem_cons_of_mem _ hd)⟩
theorem okTup {ds : List D} (h : OkD K (.tup ds)) {d : D} (m : d ∈ ds) : OkD K d := okDs_mem (by unfold OkD at h; exact h) m
theorem kit_tbl : ∀ a ∈ ["NoneType", "bool", "int", "str", "tuple", "list"], ∀ n ∈ kinds, kitB a n = some ((a == n) || (a == "bool" && n == "int")) := by decide +kernel
theorem isi_ok {d : D} {n : String} (h : OkD K d) (hn : n ∈ kinds) : TyOk K d ∧ PySem.W.kitOne K (tyD d) (.type n) = some (isiD d n) := by
  have five : n = "int" ∨ n = "bool" ∨ n = "str" ∨ n = "tuple" ∨ n = "list" := by simpa [kinds] using hn
  have t : ∀ a ∈ ["NoneType", "bool", "int", "str", "tuple", "list"], PySem.W.kitOne K (.type a) (.type n) = some ((a == n) || (a == "bool" && n == "int")) := fun a ha => kit_ty (kit_tbl a ha n hn)
  cases d with
  | ty _ => unfold OkD at h; exact h.elim
  | ins C gs => unfold OkD at h; exact ⟨.inr ⟨C, gs, rfl, h.1⟩, h.2 n hn⟩
  | adr _ => unfold OkD at h; exact h.elim
  | oth t => unfold OkD at h; exact ⟨.inl trivial, h n hn⟩
  | non => refine ⟨.inl trivial, (t "NoneType" (by simp)).trans ?_⟩; rcases five with rfl | rfl | rfl | rfl | rfl <;> simp [isiD]
  | bl _ => refine ⟨.inl trivial, (t "bool" (by simp)).trans ?_⟩; rcases five with rfl | rfl | rfl | rfl | rfl <;> simp [isiD]
  | int _ => refine ⟨.inl trivial, (t "int" (by simp)).trans ?_⟩; rcases five with rfl | rfl | rfl | rfl | rfl <;> simp [isiD]
  | str _ => refine ⟨.inl trivial, (t "str" (by simp)).trans ?_⟩; rcases five with rfl | rfl | rfl | rfl | rfl <;> simp [isiD]
  | tup _ => refine ⟨.inl trivial, (t "tuple" (by simp)).trans ?_⟩; rcases five with rfl | rfl | rfl | rfl | rfl <;> simp [isiD]
  | lst _ => refine ⟨.inl trivial, (t "list" (by simp)).trans ?_⟩; rcases five with rfl | rfl | rfl | rfl | rfl <;> simp [isiD]
  | fl _ => refine ⟨.inl trivial, (t "list" (by simp)).trans ?_⟩; rcases five with rfl | rfl | rfl | rfl | rfl <;> simp [isiD]
/-- isinstance(d, n) -/
theorem gIsi_ok {d : D} {n : String} {q : D → Prop} (h : OkD K d) (hn : n ∈ kinds) (hq : q (.bl (isiD d n))) : gIsi K [d, .ty n] q :=
  ⟨d, n, _, rfl, (isi_ok h hn).1, (isi_ok h hn).2, hq⟩
/-- a comprehension that maps what passes the test -/
theorem lc_fm {ds : List D} {τ1 : List Cell} {wg : GW} {wt : TW} {we : EW} {vs : List Nat} {q : D → List Cell → Prop} (f : D → D) (p : D → Bool) (hn : ds.length ≤ 1000)
    (hs : ∀ d ∈ ds, ∀ (k1 : D → List Cell → Prop) (k2 : List Cell → Prop), (p d = true → ∀ τ5, wipeD τ5 vs = wipeD τ1 vs → k1 (f d) τ5) → (p d = false → ∀ τ5, wipeD τ5 vs = wipeD τ1 vs → k2 τ5) →
      wg d (wipeD τ1 vs) fun τ3 => wt τ3 (fun b τ4 => (b = true → we τ4 k1 noX) ∧ (b = false → k2 τ4)) noX)
    (hq : q (.lst ((ds.filter p).map f)) (wipeD τ1 vs)) :
    ds.length ≤ 1000 ∧ ∃ inv : Nat → List D → List Cell → Prop, inv 0 [] (wipeD τ1 vs) ∧
    (∀ i d acc τ2, ds[i]? = some d → inv i acc τ2 → acc.length ≤ i → wg d τ2 fun τ3 => wt τ3 (fun b τ4 => (b = true → we τ4 (fun y τ5 => inv (i + 1) (acc ++ [y]) (wipeD τ5 vs)) noX) ∧ (b = false → inv (i + 1) acc (wipeD τ4 vs))) noX) ∧
    ∀ acc τ2, inv ds.length acc (wipeD τ2 vs) → acc.length ≤ ds.length → q (.lst acc) (wipeD τ2 vs) := by
  refine ⟨hn, fun i acc τ => acc = ((ds.take i).filter p).map f ∧ τ = wipeD τ1 vs, ⟨by simp, rfl⟩, ?_, ?_⟩
  · rintro i d acc τ2 hd ⟨rfl, rfl⟩ _
    have tk : ds.take (i + 1) = ds.take i ++ [d] := by
      rw [List.take_add_one, hd]
      rfl
    refine hs d (List.mem_of_getElem? hd) _ _ (fun hp τ5 e => ⟨?_, e⟩) (fun hp τ5 e => ⟨?_, e⟩)
    · rw [tk, List.filter_append, List.map_append]
      simp [hp]
    · rw [tk, List.filter_append, List.map_append]
      simp [hp]
  · rintro acc τ2 ⟨rfl, e⟩ _
    rw [e, List.take_length]
    exact hq
end
end L3
namespace L3
open PySem PySem.Spec PyProof.Rows L2
variable [TB : TabT]
theorem gIsi_iff {K : PySem.W.Frag} {d : D} {n : String} {q : D → Prop} (h : OkD K d) (hn : n ∈ kinds) : gIsi K [d, .ty n] q ↔ q (.bl (isiD d n)) := by
  refine ⟨fun ⟨d', n', b, e, _, e2, hq⟩ => ?_, gIsi_ok h hn⟩
  cases e
  rw [(isi_ok h hn).2] at e2
  cases e2
  exact hq
end L3
namespace L3
open PySem PySem.Spec PyProof.Rows L2
variable [TB : TabT]
theorem atI_nat' {α : Type} {l : List α} {k : Nat} {x : α} (h : l[k]? = some x) : atI l (k : Int) = some x := by
  have hk := (List.getElem?_eq_some_iff.mp h).1
  unfold atI ixN
  rw [if_pos (Int.natCast_nonneg k), if_pos (by omega)]
  exact h
theorem atI0 {α : Type} {x : α} {r : List α} : atI (x :: r) 0 = some x := atI_nat' (k := 0) rfl
theorem atI1 {α : Type} {x y : α} {r : List α} : atI (x :: y :: r) 1 = some y := atI_nat' (k := 1) rfl
theorem atI2 {α : Type} {x y z : α} {r : List α} : atI (x :: y :: z :: r) 2 = some z := atI_nat' (k := 2) rfl
theorem atI3 {α : Type} {x y z a : α} {r : List α} : atI (x :: y :: z :: a :: r) 3 = some a := atI_nat' (k := 3) rfl
theorem atI4 {α : Type} {x y z a b : α} {r : List α} : atI (x :: y :: z :: a :: b :: r) 4 = some b := atI_nat' (k := 4) rfl
theorem ixN51 : ixN 5 1 = some 1 := by decide
theorem ixN52 : ixN 5 2 = some 2 := by decide
theorem ixN53 : ixN 5 3 = some 3 := by decide
/-- where the law's draws stand -/
def SrcC (c : Cont) : Prop := ∃ (ns : List Int) (i r t f : Int), c = .lst [.lst (ns.map D.int), .int i, .int r, .int t, .int f] ∧ 0 ≤ i ∧ 0 ≤ r
end L3
namespace L3
theorem seqD_t {ds : List D} : seqD (.tup ds) = some ds := rfl
theorem seqD_l {ds : List D} : seqD (.lst ds) = some ds := rfl
theorem seqD_f {ds : List D} : seqD (.fl ds) = some ds := rfl
end L3
namespace L3
open PySem PySem.Spec PyProof.Rows L2
variable [TB : TabT]
theorem atIm1_2 {α : Type} {x y : α} : atI [x, y] (-1) = some y := rfl
theorem atIm1_3 {α : Type} {x y z : α} : atI [x, y, z] (-1) = some z := rfl
theorem gEqD_refl {d : D} {p : PyData} {q : D → Prop} (h : toPy d = some p) (hs : SeqAt.shaped p = true) (hq : q (.bl true)) : gEqD d d q :=
  ⟨p, p, h, h, hs, hs, by rw [SeqAt.eqv_refl _ (SeqAt.canLay_of_shaped hs)]; exact hq⟩
theorem gNeD_refl {d : D} {p : PyData} {q : D → Prop} (h : toPy d = some p) (hs : SeqAt.shaped p = true) (hq : q (.bl false)) : gNeD d d q :=
  ⟨p, p, h, h, hs, hs, by rw [SeqAt.eqv_refl _ (SeqAt.canLay_of_shaped hs)]; exact hq⟩
end L3

/-! ## an own error whose __init__ does nothing, made without arguments -/
namespace L3
open PySem PySem.Spec PyProof.Rows L2
variable [TB : TabT]
section
open PySem.W PySem.Calls PySem.HandSPX
def xA (p1 : Pos) : Arguments := { posonlyargs := [], args := [{ arg := "self", annotation := none, pos := p1 }], vararg := none, kwonlyargs := [], kw_defaults := [], kwarg := none, defaults := [] }
def xB (q1 : Pos) : List Stmt := [.Pass q1]
def xS : Scope := { kind := .function, names := [(PySem.Str.ofString "self", .local)], isGenerator := false, isCoroutine := false, more := [] }
structure Exc0 (K : Frag) (mg : Str → Option Value) (x qn : Str) (C fI : Addr) : Prop where
  gC : mg x = some (.ref C)
  cls : ∃ nm q N bs bm sn sub ab col dd k0 k1 k2 k3 k5, K.lookup C = some (excClassObj nm q C N bs bm true sn sub ab col dd k0 k1 k2 k3 k5 "ValueError.__new__") ∧ refsVE bm = true
  iC : findIn K (.ref C) "__init__" = some (some (.ref fI))
  tC : typeIn K (.ref fI) = some (.type "function")
  kC : keepIn K (.ref C) = true
  exC : subIn K (.ref C) (.type "BaseException") = some true
  tyC : typeIn K (.ref C) = some (.type "type")
  fn : ∃ (oc : Value) (od : Option Addr) (doc pm : Value) (an : Option Addr) (cdv ct : Value) (osl : Array (Option Value)) (p1 q1 : Pos),
    K.lookup fI = some ⟨oc, od, .func (fnOf "__init__" qn (xA p1) (xB q1) xS .none .none doc pm an cdv ct), osl⟩ ∧ codeIn K cdv qn = true
variable {prog : Program} {w : World} {A : Around} {E : Value → Shared → Prop} {R : Result → Shared → Prop} {s : Shared} {K : Frag} {mg : Str → Option Value} {C fI : Addr} {x qn : Str}
theorem exc0_init (T : Exc0 K mg x qn C fI) {e : Addr} (X : K.In s.heap) (hlim : s.heap.NoLimit) (hroom : A.depth < recursionLimit)
    (hq : ∀ h' tk, (∀ b o, s.heap.get? b = some o → h'.get? b = some o) → R (.ok (.ret .none)) { s with heap := h', toks := tk }) :
    codeAny (model prog w) A (.call (.ref fI) ⟨[.ref e], []⟩) R s := by
  obtain ⟨oc, od, doc, pm, an, cdv, ct, osl, p1, q1, ho, hcd⟩ := T.fn
  refine Att.call_fn (binds := [("self", .ref e)]) X hlim ho hcd hroom (BindsTo.of_eq (by first | rfl | with_unfolding_all rfl)) (by first | rfl | decide | with_unfolding_all rfl) (fun s₁ IC => ?_) rfl rfl rfl
  obtain ⟨h₁, tk₁, rfl⟩ := IC.toInCall.same
  have k : ∀ b o, s.heap.get? b = some o → h₁.get? b = some o := IC.toInCall.keep
  show wpAny _ _ (execs _ _) _ _ _
  refine wpAny_execs_cons (wpAny_Pass ?_)
  show wpAny _ _ (execs _ _) _ _ _
  exact wpAny_execs_nil (hq h₁ tk₁ k)
theorem exc0_made (T : Exc0 K mg x qn C fI) (X : K.In s.heap) (hlim : s.heap.NoLimit) (hroom : A.depth + 1 < recursionLimit)
    (hq : ∀ h' tk e, (∀ b o, s.heap.get? b = some o → h'.get? b = some o) → s.heap.objs.size ≤ e → (∃ t0, h'.get? e = some (excO C t0)) → R (.ok (.ret (.ref e))) { s with heap := h', toks := tk }) :
    codeAny (model prog w) A (.call (.ref C) ⟨[], []⟩) R s := by
  obtain ⟨nm, q, N, bs, bm, sn, sub, ab, col, dd, k0, k1, k2, k3, k5, hC, hbm⟩ := T.cls
  obtain ⟨hp, g, dr, tk, os⟩ := s
  have k : ∀ b o, hp.get? b = some o → ((hp.push (kdv_tup [])).push (excO C hp.objs.size)).get? b = some o := fun b o e => Heap.get?_push_of_some _ (Heap.get?_push_of_some _ e)
  have hget : ((hp.push (kdv_tup [])).push (excO C hp.objs.size)).get? (hp.objs.size + 1) = some (excO C hp.objs.size) := by heap_get
  refine call_own F.excBase_ValueError (fun X => refsVE_contains X bm hbm) (X _ _ hC) (looks_findIn X T.iC) (fun self => bind_fn X self T.tC) (Nat.zero_le _) ?_
  refine exc0_init (s := ⟨(hp.push (kdv_tup [])).push (excO C hp.objs.size), g, dr, tk, os⟩) T (X.keeps k) (hlim.keeps k) ?_ fun h' tk' k' => ?_
  · show A.depth + 1 < recursionLimit
    exact hroom
  · exact ⟨rfl, hq h' tk' (hp.objs.size + 1) (fun b o e => k' b o (k b o e)) (Nat.le_succ _) ⟨_, k' _ _ hget⟩⟩
end
section
variable {X : Cx} {C fI : Addr} {x qn : Str}
/-- x() as what is raised -/
theorem pmk0 {p pos : Pos} {k : Nat} (T : Exc0 X.K X.mg x qn C fI) (hr : Room k X.A) (hg : Gl X x := by rfl) (hdb : (x == ("__debug__" : Str)) = false := by decide) :
    PMk X (.Call (.Name x p) [] [] pos) (fun _ H Q => Q (.ref C) none H) := by
  intro pins s σ H Q I h
  refine wpAny_Call_Name_kw (ld_glob I hg T.gC ?_ hdb)
  refine PySem.W.callWith_K0 I.kIn T.kC ?_
  have hlim := I.nolimit
  obtain ⟨hp, g, dr, tk, os⟩ := s
  refine wpAny_call (exc0_made T I.kIn hlim (by have := hr.dp; omega) fun h' tk' e kp hn ⟨t0, he⟩ => ?_)
  show MkP X pins σ Q (.ref e) ⟨h', g, dr, tk', os⟩
  obtain ⟨G', g1, g2⟩ := restrict h' fun b => decide (b ≠ e)
  have gk : ∀ b, b ≠ e → G'.get? b = h'.get? b := fun b hb => g1 b (decide_eq_true hb)
  have ge : G'.get? e = none := g2 e (by simp)
  have old : ∀ b o, hp.get? b = some o → G'.get? b = some o := fun b o q => (gk b (Nat.ne_of_lt (Nat.lt_of_lt_of_le (Heap.lt_size q) hn))).trans (kp b o q)
  have J : Inv X pins σ H ⟨G', g, dr, tk', os⟩ := I.kept (t' := tk') old
  refine ⟨e, _, _, ⟨G', g, dr, tk', os⟩, H, .ref C, none, rfl, J, fun b o q => ?_, ge, he, ⟨rfl, rfl⟩, rfl, rfl, I.hok.fresh hn, rfl, I.bare, raises_own T.exC T.tyC, h⟩
  by_cases hb : b = e
  · have q' : G'.get? b = some o := q
    rw [hb, ge] at q'; cases q'
  · exact (gk b hb).symm.trans q
end
section
variable {K : PySem.W.Frag} {W : WX}
def wRaise0 (C : Addr) : SW := fun E τ => E.ex ⟨C, []⟩ τ
theorem ds_raise0 {C : Addr} : DS K W (fun _ σ H => (fun (_ : L2.St) (H : Hp) (Q : XK) => Q (.ref C) none H) σ H fun cls d H' => W cls d σ H') (wRaise0 C) :=
  ⟨fun σ H τ F Dn E S hw o => o.ex σ _ _ none τ F H (.refl S) ⟨rfl, .inl ⟨rfl, rfl⟩⟩ hw⟩
end
end L3

/-! ## sorted, of things of any depth -/
namespace L3
open PySem PySem.Spec PyProof.Rows L2
variable [TB : TabT]
section
variable {X : Cx}
theorem reads_each {pins : List (Addr × Obj)} {σ : L2.St} {H : Hp} {s : Shared} (I : Inv X pins σ H s) : ∀ {bs : List (V × PyData)} {us : List Value}, Vals (bs.map (·.1)) us → (∀ b ∈ bs, Dp X.K H b.1 b.2) →
    PySem.W.EachIs (fun v (b : V × PyData) => RelV b.1 v) us bs ∧ PySem.W.EachIs (fun v (b : V × PyData) => ∃ as, Reads s.heap v b.2 as) us bs
  | [], _, .nil, _ => ⟨.nil, .nil⟩
  | b :: bs, _, .cons r t, h => by
    obtain ⟨h1, h2⟩ := reads_each I t fun c hc => h c (List.mem_cons_of_mem _ hc)
    exact ⟨.cons r h1, .cons (Dp.reads I b.2 b.1 _ (h b (List.mem_cons_self ..)) r) h2⟩
theorem each_vals : ∀ {bs : List (V × PyData)} {us : List Value}, PySem.W.EachIs (fun v (b : V × PyData) => RelV b.1 v) us bs → Vals (bs.map (·.1)) us
  | _, _, .nil => .nil
  | _, _, .cons r t => .cons r (each_vals t)
def rSortG (K : PySem.W.Frag) : List V → Hp → VK → Prop := fun vs H Q => ∃ (a : Addr) (bs : List (V × PyData)), vs = [.ref a] ∧ SqL K H a (bs.map (·.1)) ∧ (∀ b ∈ bs, Dp K H b.1 b.2) ∧ PySem.W.AllAlike (bs.map (·.2)) ∧ PySem.W.Sortable (bs.map (·.2)) ∧ (∀ b ∈ bs, b.2.depth ≤ 60) ∧
  ∀ p, H p = none → Q (.ref p) (upd H p (.lst ((bs.mergeSort (PySem.W.dataLe false fun b => b.2)).map (·.1))))
theorem cr_sortG (hu : X.A.units + 64 < cLine) : CallR X (.builtin "sorted") (rSortG X.K) := by
  intro pins s σ H vs us Q I r h
  obtain ⟨a, bs, rfl, hs, hd, hal, hk, hdep, q⟩ := h
  obtain ⟨its, rv, hl, hz⟩ := I.list hs
  obtain ⟨u, rfl, ru⟩ := vals1 r
  obtain rfl : u = Value.ref a := ru
  obtain ⟨e1, e2⟩ := reads_each I rv hd
  have hlen : bs.length ≤ sizeLine := by
    have := rv.length
    rw [List.length_map] at this hz
    exact hz
  refine PySem.W.sorted_data (R := fun v (b : V × PyData) => RelV b.1 v) (enc := fun b => b.2) hl.isList e1 e2 hal hk hlen (fun b hb => by have := hdep b hb; omega) fun out ho eo => ?_
  obtain ⟨c, hc⟩ := sortedAll_at s.heap its out.toArray
  have vo := each_vals eo
  have hf := I.hok.fresh (Nat.le_succ s.heap.objs.size)
  refine ⟨.ref (s.heap.objs.size + 1), _, I.laid (t' := s.toks) (fun b o e => sortedAll_old e) (Nat.le_succ _) (o := .lst ((bs.mergeSort (PySem.W.dataLe false fun b => b.2)).map (·.1))) ⟨?_, out, c, vo, hc⟩, rfl, q _ hf⟩
  rw [vo.length, ho]
  exact hlen
end
section
variable {K : PySem.W.Frag} {W : WX}
def pyD (d : D) : PyData := (toPy d).getD .none
def leD (a b : D) : Bool := PySem.W.dataLe false (fun d => pyD d) a b
/-- sorted(xs) -/
def gSort : List D → (D → Prop) → Prop := fun ds q => ∃ es, (ds = [.lst es] ∨ ds = [.fl es]) ∧ (∀ e ∈ es, (toPy e).isSome) ∧ PySem.W.AllAlike (es.map pyD) ∧ PySem.W.Sortable (es.map pyD) ∧ (∀ e ∈ es, (pyD e).depth ≤ 60) ∧ q (.lst (es.mergeSort leD))
theorem reps_pairs {F : Hp} : ∀ {vs : List V} {ds : List D}, Reps K F vs ds → ∃ bs : List (V × D), bs.map (·.1) = vs ∧ bs.map (·.2) = ds ∧ ∀ b ∈ bs, Rep K F b.1 b.2
  | _, _, .nil => ⟨[], rfl, rfl, fun b h => by simp at h⟩
  | _, _, .cons (v := v) (d := d) r t => by
    obtain ⟨bs, h1, h2, h3⟩ := reps_pairs t
    refine ⟨(v, d) :: bs, by rw [List.map_cons, h1], by rw [List.map_cons, h2], fun b hb => ?_⟩
    rcases List.mem_cons.mp hb with rfl | hb
    · exact r
    · exact h3 b hb
theorem pairs_reps {F : Hp} : ∀ {bs : List (V × D)}, (∀ b ∈ bs, Rep K F b.1 b.2) → Reps K F (bs.map (·.1)) (bs.map (·.2))
  | [], _ => .nil
  | b :: bs, h => .cons (h b (List.mem_cons_self ..)) (pairs_reps fun c hc => h c (List.mem_cons_of_mem _ hc))
theorem o_sort : OpN K (rSortG K) gSort := by
  rintro F H xs ds q Q s r ⟨es, e, hsome, hal, hk, hdep, hq⟩ k
  have : ∃ a vs, xs = [.ref a] ∧ SqL K F a vs ∧ Reps K F vs es := by
    rcases e with rfl | rfl
    · obtain ⟨v, rfl, r1⟩ := r.one
      cases r1 with
      | lst h r => exact ⟨_, _, rfl, .inl (.inl h), r⟩
    · obtain ⟨v, rfl, r1⟩ := r.one
      cases r1 with
      | fl h r => exact ⟨_, _, rfl, h, r⟩
  obtain ⟨a, vs, rfl, hs, rs⟩ := this
  obtain ⟨bs, rfl, rfl, hb⟩ := reps_pairs rs
  let f : V × D → V × PyData := fun b => (b.1, pyD b.2)
  have m1 : (bs.map f).map (·.1) = bs.map (·.1) := by rw [List.map_map]; rfl
  have m2 : (bs.map f).map (·.2) = (bs.map (·.2)).map pyD := by rw [List.map_map, List.map_map]; rfl
  refine ⟨a, bs.map f, rfl, by rw [m1]; exact s.seq hs, fun b hm => ?_, by rw [m2]; exact hal, by rw [m2]; exact hk, fun b hm => ?_, fun p hp => ?_⟩
  · obtain ⟨c, hc, rfl⟩ := List.mem_map.mp hm
    have h1 := hsome c.2 (List.mem_map.mpr ⟨c, hc, rfl⟩)
    obtain ⟨pd, e⟩ := Option.isSome_iff_exists.mp h1
    have e2 : pyD c.2 = pd := by unfold pyD; rw [e]; rfl
    show Dp K H c.1 (pyD c.2)
    rw [e2]
    exact Dp_mono s (dp_of (hb c hc) e)
  · obtain ⟨c, hc, rfl⟩ := List.mem_map.mp hm
    exact hdep c.2 (List.mem_map.mpr ⟨c, hc, rfl⟩)
  · have e1 : (bs.map f).mergeSort (PySem.W.dataLe false fun b => b.2) = (bs.mergeSort fun a b => leD a.2 b.2).map f := by
      symm
      apply List.map_mergeSort
      intro a _ b _
      rfl
    have e2 : (bs.mergeSort fun a b => leD a.2 b.2).map (·.2) = (bs.map (·.2)).mergeSort leD := by
      apply List.map_mergeSort
      intro a _ b _
      rfl
    rw [e1, List.map_map]
    have e3 : ((fun b : V × PyData => b.1) ∘ f) = fun b : V × D => b.1 := rfl
    rw [e3]
    obtain ⟨x1, x2⟩ := new_ext (o := .lst ((bs.mergeSort fun a b => leD a.2 b.2).map (·.1))) s hp
    refine k _ (.lst ((bs.map (·.2)).mergeSort leD)) _ _ x1 x2 (.lst upd_same ?_) hq
    rw [← e2]
    refine pairs_reps fun b hm => ?_
    exact (hb b (List.mem_mergeSort.mp hm)).mono (new_same s hp)

/-! ## dicts that are written, things that are only handed about -/
def wDict0 : EW := fun τ q _ => q (.oth (.type "dict")) τ
theorem de_dict0 : DE K W tDNewK wDict0 := by
  refine ⟨fun σ H τ F Q q e S hq k _ p hp => ?_⟩
  obtain ⟨x1, x2⟩ := new_ext (o := .dK []) S.sub hp
  exact k _ _ τ _ _ (.small S x1 x2) (.oth (.base (.dK upd_same))) hq
def keyD : D → Option Key | .int i => some (.inl i) | .str x => some (.inr x) | _ => none
/-- {k: v} -/
def wDict1 (wk wv : EW) : EW := fun τ q e => wk τ (fun k τ1 => wv τ1 (fun _ τ2 => (keyD k).isSome ∧ q (.oth (.type "dict")) τ2) e) e
theorem de_dict1 {tk tv : TE} {wk wv : EW} (hk : DE K W tk wk) (hv : DE K W tv wv) : DE K W (tDisp [(tk, tv)]) (wDict1 wk wv) := by
  refine ⟨fun σ H τ F Q q e S hw kq x p hp => ?_⟩
  have nF := new_not_data S hp
  have nO := new_not_own S hp
  have T0 : To K F H σ τ F (upd H p (.dK [])) τ := (To.refl S).touch (fr_none hp) nF nO (tabs_new hp)
  refine hk.run σ _ τ F _ _ e T0.ok hw (fun v1 d1 τ1 F1 H1 t1 r1 h1 => ?_) (x.of T0)
  refine hv.run σ H1 τ1 F1 _ _ e t1.ok h1 (fun v2 d2 τ2 F2 H2 t2 r2 ⟨hs, hq⟩ => ?_) ((x.of T0).of t1)
  have t12 := t1.trans t2
  have hP : H2 p = some (.dK []) := t12.ext.keep p _ upd_same (fun z => nO z) (fun ps z => by cases z)
  have nF2 : F2 p = none := t12.not_data (o := .dK []) nO upd_same nF
  have nO2 : ¬ IsOwn τ2 p := t12.not_own (o := .dK []) nO upd_same
  obtain ⟨key, ek⟩ := Option.isSome_iff_exists.mp hs
  have ev : v1 = kV key := by
    cases d1 <;> cases ek
    · exact r1.int_of
    · cases r1; rfl
  refine ⟨hP, [(key, v2)], by rw [ev]; rfl, by simp, ?_⟩
  have T2 := T0.trans t12
  have T3 : To K F H σ τ F2 (upd H2 p (.dK (mergeK [] [(key, v2)]))) τ2 := T2.touch (fr_none hp) nF2 nO2 (tabs_dK hP)
  exact kq _ _ τ2 _ _ (T3.freeze (fr_none hp) nF2 upd_same nO2) (.oth (.base (.dK upd_same))) hq
end
end L3

/-! ## enumerate of a tuple, t[::-1] -/
namespace L3
open PySem PySem.Spec PyProof.Rows L2
theorem wp_ctt {M : Model} {A : Around} {Q : Bool → Shared → Prop} {E : Value → Shared → Prop} {s : Shared} {c : Value} (h : ∀ b, Q b s) : wpAny M A (Builtin.SmallTypes.calledThroughType c) Q E s := wpAny_bind (wpAny_stack_any fun _ => wpAny_pure (h _))
theorem meets_enumT (v : Value) (o : Obj) (H : Heap → Prop)
    (hit : ∀ (prog : Program) (w : World) (A : Around) (E : Value → Shared → Prop) (s : Shared) (Q : Value → Shared → Prop), H s.heap →
      Q (.ref s.heap.objs.size) { s with heap := s.heap.push o } → wpAny (model prog w) A (pyIter v) Q E s) :
    Meets (Builtin.«enumerate.__new__» { pos := [.type "enumerate", v] }) fun _ R s => H s.heap ∧
      R (.ok (.ret (.ref (s.heap.push o).objs.size))) { s with heap := (s.heap.push o).push { cls := .type "enumerate", data := .fields #[.none, .bool false, .ref s.heap.objs.size, rawInt 0, .none, .none] } } := by
  refine Meets.of_wp fun prog w A R s h => ?_
  obtain ⟨h1, h2⟩ := h
  have hsub := sub_enumerate
  unfold Builtin.«enumerate.__new__» Builtin.SmallTypes.newClass
  refine wpAny_bind ?_
  show wpAny _ _ ((isType (.type "enumerate")) >>= _) _ _ _
  refine wpAny_bind ?_
  refine wpAny_pure ?_
  refine wpAny_ite_false rfl ?_
  refine wpAny_bind (wpAny_of_eq hsub (wpAny_ite_false rfl (wpAny_pure ?_)))
  refine wpAny_ite_true rfl ?_
  refine wpAny_bind ?_
  have fin : wpAny (model prog w) A.in1 (do
              let __do_lift ← pyIter v
              let __do_lift ←
                Builtin.SmallTypes.newRecord (Value.type "enumerate")
                    (Builtin.SmallTypes.ownedTupleFields ++ [__do_lift, rawInt 0, Value.none, Value.none])
              ret __do_lift) (fun fin s' => ∃ v, fin = Fin.done (Flow.ret v) ∧ R (Except.ok (Flow.ret v)) s') (fun e s' => R (Except.error e) s') s := by
    refine wpAny_bind (hit prog w A.in1 _ s _ h1 ?_)
    refine wpAny_bind ?_
    unfold Builtin.SmallTypes.newRecord
    refine wpAny_newObj_type ?_ (show (6 : Nat) ≤ sizeLine + 2 by decide)
    exact wpAny_pure ⟨_, rfl, h2⟩
  refine wp_ctt fun short => ?_
  cases short
  · refine wpAny_ite_false rfl ?_
    refine wpAny_bind ?_
    refine wpAny_pure (a := (v, none)) ?_
    exact fin
  · refine wpAny_ite_true rfl ?_
    refine wpAny_bind ?_
    refine wpAny_pure (a := (v, none)) ?_
    exact fin
theorem call_enumT {prog : Program} {w : World} {A : Around} {E : Value → Shared → Prop} {s : Shared} {t : Addr} {items : Array Value} {Q : Value → Shared → Prop} (ht : s.heap.IsTuple t items)
    (h : ∀ h' : Heap, IsEnum h' (s.heap.objs.size + 1) s.heap.objs.size 0 .none → h'.IsTupleIter s.heap.objs.size t 0 → h'.objs.size = s.heap.objs.size + 2 → (∀ (b : Addr) (o : Obj), s.heap.get? b = some o → h'.get? b = some o) →
      Q (.ref (s.heap.objs.size + 1)) { s with heap := h' }) : wpAny (model prog w) A (call (.type "enumerate") [.ref t]) Q E s := by
  let io : Obj := { cls := .type "tuple_iterator", data := .fields #[.ref t, .int 0 0] }
  refine callType_new F.called_enumerate (by decide) (F.typeCall_enumerate_1 _) (F.newCall_enumerate_1 _) (fun obj => F.args_object_init_2 obj _) F.entry_enumerate_new (meets_enumT (.ref t) io (fun h => h.IsTuple t items) fun prog w A E s Q hh hq => wpAny_pyIter_tuple hh hq) ⟨ht, ?_⟩
  have hz := Heap.size_push s.heap io
  have he : ((s.heap.push io).push { cls := .type "enumerate", data := .fields #[.none, .bool false, .ref s.heap.objs.size, rawInt 0, .none, .none] }).get? (s.heap.objs.size + 1) = some { cls := .type "enumerate", data := .fields #[.none, .bool false, .ref s.heap.objs.size, rawInt 0, .none, .none] } := by
    rw [← hz]
    exact Heap.get?_push_size (s.heap.push io) rfl
  rw [hz]
  refine ⟨⟨_, he, rfl⟩, h _ he ⟨io, Heap.get?_push_of_some _ (Heap.get?_push_size s.heap rfl), rfl, rfl⟩ ?_ fun b o e => Heap.get?_push_of_some _ (Heap.get?_push_of_some _ e)⟩
  rw [Heap.size_push, hz]
theorem draws_tuple {prog : Program} {w : World} {A : Around} (hh : A.handled = none) (it l : Addr) (hne : l ≠ it) (items : Array Value) :
    Draws prog w A it [it, l] items.size (fun i v => items[i]? = some v) fun i h => h.IsTupleIter it l i ∧ h.IsTuple l items := by
  refine ⟨fun _ _ st => ?_, fun _ _ _ st hk => ⟨st.1.at fun o e => hk it (by simp) o e, st.2.at fun o e => hk l (by simp) o e⟩, fun i s Q E hi st hQ => ?_, fun s Q E st hE => RZ.nextOf_tuple_end hh st.1 st.2 (by simp) hE⟩
  · obtain ⟨o, ho, _⟩ := st.1
    exact ⟨o, ho⟩
  · exact RZ.nextOf_tuple_item (x := items[i]) st.1 st.2 (by simp [hi]) fun h' hit' hs' => hQ items[i] h' s.toks (by simp [hi]) ⟨hit', st.2.extBut hs'.extBut hne⟩ hs'
theorem draws_end {prog : Program} {w : World} {A : Around} (hh : A.handled = none) (it l : Addr) {items : Array Value} {i : Nat} (hi : items[i]? = none) :
    Draws prog w A it [it, l] i (fun _ _ => False) fun j h => j = i ∧ h.IsTupleIter it l j ∧ h.IsTuple l items := by
  refine ⟨fun _ _ st => ?_, fun _ _ _ st hk => ⟨st.1, st.2.1.at fun o e => hk it (by simp) o e, st.2.2.at fun o e => hk l (by simp) o e⟩, fun j s Q E hj st hQ => absurd st.1 (Nat.ne_of_lt hj), fun s Q E st hE => RZ.nextOf_tuple_end hh st.2.1 st.2.2 hi hE⟩
  obtain ⟨o, ho, _⟩ := st.2.1
  exact ⟨o, ho⟩
def IteT (K : PySem.W.Frag) (a : Addr) : It where
  go i H := ∃ xs x, SqT K H a xs ∧ xs[i]? = some x
  yld i H v H' := ∃ T x, v = .ref T ∧ H T = none ∧ H' = upd H T (.tup [.int i, x]) ∧ ∀ xs, SqT K H a xs → xs[i]? = some x
  stop i H := ∃ xs, SqT K H a xs ∧ xs.length ≤ i
theorem turn_enumT {P : Program} {w : World} {K : PySem.W.Frag} {elts : List Expr} {kk : Nat} {tpos : Pos} (a e it : Addr) :
    Turn P w K (.Tuple elts kk tpos) (IteT K a) [e, it] e fun i h => (∃ old, IsEnum h e it (i : Int) old) ∧ h.IsTupleIter it a i ∧ e ≠ it := by
  refine ⟨by simp, fun i h ⟨⟨old, he⟩, ⟨o, ho, hc, hd⟩, _⟩ b hb => ?_, fun i h h' ⟨⟨old, he⟩, hi, hne⟩ k => ⟨⟨old, k e (by simp) _ he⟩, hi.at fun o q => k it (by simp) o q, hne⟩, ?_, ?_, fun A i s Q E ⟨⟨_, he⟩, _⟩ h => wpAny_pyIter_enum he h⟩
  · have e' : b = e ∨ b = it := by simpa using hb
    rcases e' with rfl | rfl
    · exact ⟨_, he, fun v q => by cases q⟩
    · exact ⟨o, ho, fun v q => by rw [hd] at q; cases q⟩
  · rintro X rfl rfl rfl hc i pins s σ H E I hf ⟨⟨old, he⟩, hit, hne⟩ ⟨xs, x, hq, hx⟩
    obtain ⟨its, rv, p, hz⟩ := I.tuple hq
    obtain ⟨u, hu, ru⟩ := rv.get hx
    have hel : e < s.heap.objs.size := Heap.lt_size he
    have hil : it < s.heap.objs.size := by
      obtain ⟨_, q, _⟩ := hit
      exact Heap.lt_size q
    have hat : a ≠ it := fun z => by
      subst z
      obtain ⟨o1, q1, c1, _⟩ := hit
      obtain ⟨o2, q2, c2, _⟩ := p
      rw [q1] at q2; cases q2; rw [c1] at c2; injection c2 with z; exact absurd z (by decide)
    have hae : e ∉ [it, a] := fun z => by
      have z' : e = it ∨ e = a := by simpa using z
      rcases z' with z' | rfl
      · exact hne z'
      · obtain ⟨o2, q2, c2, _⟩ := p
        rw [he] at q2; cases q2; injection c2 with z; exact absurd z (by decide)
    have hi : i < its.toArray.size := by
      rw [List.size_toArray]
      exact (List.getElem?_eq_some_iff.mp hu).1
    refine wpAny_pyNext_enum_itemD (draws_tuple (by exact I.ok.hd hc) it a hat its.toArray) he ⟨hit, p⟩ hi hne hae fun u' h' tk hu' ho hit' hT hsz hk => ?_
    have eu : u' = u := by
      have : its[i]? = some u' := by simpa using hu'
      rw [hu] at this; cases this; rfl
    subst eu
    refine ⟨_, rfl, wpAny_letOwnedTupleGo_enum ho fun h'' he' sb => ?_⟩
    have hT2 := (sb.2 s.heap.objs.size (Nat.ne_of_gt hel)).trans hT
    have I1 := I.turnedNew (h' := h'') (t' := tk + 1) (ch := [e, it]) (T := s.heap.objs.size) (ob := .tup [.int i, x]) (fun b ob hb q => (sb.2 b fun z => hb (by simp [z])).trans (hk b ob (fun z => hb (by simp [z])) (fun z => hb (by simp [z])) q)) hf (Nat.le_refl _)
      ⟨(show (2 : Nat) ≤ sizeLine by decide), [.int i tk, u'], .cons ⟨tk, rfl⟩ (.cons ru .nil), _, hT2, rfl, 0, rfl⟩
    refine ⟨.ref s.heap.objs.size, _, I1, rfl, ⟨_, x, rfl, I.hok.fresh (Nat.le_refl _), rfl, fun ys hy => ?_⟩, ⟨⟨u', he'⟩, hit'.1.at fun o q => (sb.2 it (Ne.symm hne)).trans q, hne⟩, fun b hb => ?_⟩
    · rw [I.tuple_inj hy hq]; exact hx
    · have e' : b = e ∨ b = it := by simpa using hb
      have hb' : b < s.heap.objs.size := by
        rcases e' with rfl | rfl
        · exact hel
        · exact hil
      rw [upd_ne (Nat.ne_of_lt hb')]
      exact (hf b hb).1
  · rintro X rfl rfl rfl hc i pins s σ H E I hf ⟨⟨old, he⟩, hit, hne⟩ ⟨xs, hq, hx⟩
    obtain ⟨its, rv, p, hz⟩ := I.tuple hq
    obtain ⟨f0, f1, f2, f3, f4, f5⟩ := hf it (by simp)
    have hat : a ≠ it := fun z => by
      subst z
      obtain ⟨o1, q1, c1, _⟩ := hit
      obtain ⟨o2, q2, c2, _⟩ := p
      rw [q1] at q2; cases q2; rw [c1] at c2; injection c2 with z; exact absurd z (by decide)
    have hl : its.toArray[i]? = none := by
      have := rv.length
      simp
      omega
    refine wpAny_pyNext_enum_endD (draws_end (by exact I.ok.hd hc) it a hl) he ⟨rfl, hit, p⟩ fun h' eb => ⟨rfl, I.turned (fun b o hb q => eb b o hb q) f0 f1 f3 f4 f5⟩
def iEnumT (K : PySem.W.Frag) (ta : TA) : TI := fun σ H R => ta σ H fun vs H1 => ∃ a xs, vs = [.ref a] ∧ SqT K H1 a xs ∧ R (IteT K a) H1
theorem pi_enumT {X : Cx} {e : Expr} {ta : TA} {p pos tpos : Pos} {elts : List Expr} {kk : Nat} (hg : Gl X "enumerate") (hm : X.mg "enumerate" = none) (ha : PA X [e] ta)
    (hs : starEach [e] X.env = [(false, eval e X.env)] := by rfl) : PI X (.Tuple elts kk tpos) (.Call (.Name "enumerate" p) [e] [] pos) (iEnumT X.K ta) := by
  refine ⟨fun pins s σ H R I h => ?_⟩
  refine Call_ (ld_blt I hg hm boot_enumerate (PyProof.Rows.callWith_type1 (thn (ha.run pos pins s σ H _ I h) fun us s1 ⟨vs, H1, I1, r1, a, xs, ex, hq, q⟩ => ?_) hs rfl) (by decide) (by decide)) rfl
  subst ex
  obtain ⟨u, rfl, ru⟩ := vals1 r1
  obtain rfl : u = .ref a := ru
  obtain ⟨its, rv, p, hz⟩ := I1.tuple hq
  refine call_enumT p fun h' he hit hsz hk => wpAny_pyIter_enum he ?_
  have I2 := I1.kept (t' := s1.toks) hk
  refine ⟨_, [s1.heap.objs.size + 1, s1.heap.objs.size], _, _, H1, rfl, I2, turn_enumT a _ _, ⟨⟨_, he⟩, hit, Nat.succ_ne_self _⟩, fun b hb => ?_, q⟩
  have hle : s1.heap.objs.size ≤ b := by
    have e' : b = s1.heap.objs.size + 1 ∨ b = s1.heap.objs.size := by simpa using hb
    rcases e' with rfl | rfl
    · exact Nat.le_succ _
    · exact Nat.le_refl _
  exact I1.fpOk hle (I1.hok.fresh hle)
section
variable [TB : TabT] {K : PySem.W.Frag} {W : WX}
def wEnumT (wa : AW) : IW := fun τ q e => wa τ (fun ds τ' => ∃ es, ds = [.tup es] ∧ q (es.mapIdx fun i d => .tup [.int i, d]) τ') e
theorem it_enumT {F : Hp} {a : Addr} {xs : List V} {ds : List D} (h : SqT K F a xs) (r : Reps K F xs ds) : ItOk K F (IteT K a) (ds.mapIdx fun i d => .tup [.int i, d]) := by
  refine ⟨fun i F2 H s s2 hi => ?_, fun F2 H s s2 => ⟨xs, SqT_mono s2 (SqT_mono s h), by rw [List.length_mapIdx, r.length]; exact Nat.le_refl _⟩, fun i F2 H x H' s s2 hi y => ?_⟩
  · rw [List.length_mapIdx, ← r.length] at hi
    exact ⟨xs, xs[i], SqT_mono s2 (SqT_mono s h), List.getElem?_eq_getElem hi⟩
  · obtain ⟨T, x', rfl, hT, rfl, e⟩ := y
    obtain ⟨d, e1, e2⟩ := (r.mono s).get (e xs (SqT_mono s2 (SqT_mono s h)))
    obtain ⟨x1, x2⟩ := new_ext (o := .tup [.int i, x']) s2 hT
    refine ⟨.tup [.int i, d], _, by rw [List.getElem?_mapIdx, e1]; rfl, x1, x2, .tup (.inl (.inl upd_same)) (.cons (.int _) (.cons (e2.mono (new_same s2 hT)) .nil))⟩
theorem di_enumT {t : TA} {w : AW} (h : DA K W t w) : DI K W (iEnumT K t) (wEnumT w) := by
  refine ⟨fun σ H τ F R q e S hw k x => h.run σ H τ F _ _ e S hw (fun vs ds τ' F' H' t' r ⟨es, ed, hq⟩ => ?_) x⟩
  subst ed
  obtain ⟨v, rfl, r1⟩ := r.one
  cases r1 with
  | tup hs r2 => exact ⟨_, _, rfl, SqT_mono t'.ok.sub hs, k _ _ τ' F' H' t' (it_enumT hs r2) hq⟩
end

/-! ### t[::-1] -/
theorem fm_congr {α β : Type} {f g : α → Option β} : ∀ {l : List α}, (∀ k ∈ l, f k = g k) → l.filterMap f = l.filterMap g
  | [], _ => rfl
  | a :: l, h => by
    have ih := fm_congr (f := f) (g := g) (l := l) fun k hk => h k (List.mem_cons_of_mem _ hk)
    rw [List.filterMap_cons, List.filterMap_cons, h a (List.mem_cons_self ..), ih]
theorem range_rev {α : Type} (l : List α) : (List.range l.length).filterMap (fun k : Nat => l.toArray[(((l.length : Int) - 1) + (k : Int) * (-1)).toNat]?) = l.reverse := by
  have e : ∀ k ∈ List.range l.length, l.toArray[(((l.length : Int) - 1) + (k : Int) * (-1)).toNat]? = l.reverse[k]? := fun k hk => by
    have hk := List.mem_range.mp hk
    have : (((l.length : Int) - 1) + (k : Int) * (-1)).toNat = l.length - 1 - k := by omega
    rw [this, List.getElem?_reverse hk]
    simp
  rw [fm_congr e, ← List.length_reverse]
  generalize l.reverse = m
  induction m with
  | nil => rfl
  | cons x m ih =>
    rw [List.length_cons, List.range_succ_eq_map, List.filterMap_cons]
    simp only [List.getElem?_cons_zero, List.filterMap_map]
    congr 1
theorem slice_rev {prog : Program} {w : World} {A : Around} {E : Value → Shared → Prop} {s : Shared} {sl : Addr} {vs : Value} {n : Nat} {Q : Int × Int × Nat → Shared → Prop} (hs : s.heap.IsSliceOf sl .none .none vs) (ps : IsPart vs (some (-1)))
    (h : Q ((n : Int) - 1, -1, n) s) : wpAny (model prog w) A (Builtin.Slice.sliceApplied (.ref sl) (pure (n : Int))) Q E s := by
  obtain ⟨os, hos, hcs, hds⟩ := hs
  unfold Builtin.Slice.sliceApplied Builtin.Slice.sliceFields
  refine wpAny_bind (wpAny_bind (wpAny_field hos hds rfl (wpAny_bind (wpAny_field hos hds rfl (wpAny_bind (wpAny_field hos hds rfl (wpAny_pure ?_)))))))
  refine wpAny_bind (HT.slicePart_ ps ?_)
  refine wpAny_ite_false (by decide) ?_
  refine wpAny_bind (slicePart_none (wpAny_bind (slicePart_none (wpAny_bind (wpAny_pure ?_)))))
  show wpAny _ _ (pure ((n : Int) - 1, (-1 : Int), Builtin.Slice.slicePlaces ((n : Int) - 1) (-1) (-1))) _ _ _
  have e : Builtin.Slice.slicePlaces ((n : Int) - 1) (-1) (-1) = n := by
    unfold Builtin.Slice.slicePlaces
    rw [if_neg (by decide)]
    by_cases hn : (n : Int) - 1 > -1
    · rw [if_pos hn]
      show (((n : Int) - 1 - -1 - 1) / 1 + 1).toNat = n
      rw [Int.ediv_one]
      omega
    · rw [if_neg hn]
      omega
  rw [e]
  exact wpAny_pure h
theorem getItem_tupleRev {prog : Program} {w : World} {A : Around} {E : Value → Shared → Prop} {s : Shared} {t sl : Addr} {its : List Value} {vs : Value} {Q : Value → Shared → Prop} (ht : IsTup s.heap t its.toArray) (hs : s.heap.IsSliceOf sl .none .none vs) (ps : IsPart vs (some (-1)))
    (hz : its.length ≤ sizeLine) (h : Q (.ref s.heap.objs.size) { s with heap := s.heap.push { cls := .type "tuple", data := .seq its.reverse.toArray } }) : wpAny (model prog w) A (getItem (.ref t) (.ref sl)) Q E s := by
  have hTs : s.TypeIs (.ref sl) "slice" := by
    obtain ⟨os, hos, hcs, _⟩ := hs
    exact ⟨os, hos, hcs⟩
  refine wpAny_holding (wpAny_bind (wpAny_sequenceKey ht.typeIs (by decide) (wpAny_bind (wpAny_callSpecial?_slot ht.typeIs slot_tuple_getitem (wpAny_call_entry slot_tuple_getitem ht.typeIs entry_tuple_getitem ?_)))))
  unfold Builtin.«tuple.__getitem__»
  refine wpAny_bind (wpAny_pure (a := (Value.ref t, [Value.ref sl])) ?_)
  refine wpAny_bind (tupleItemsOf_ ht (wpAny_bind (wpAny_typeOf hTs ?_)))
  refine wpAny_ite_true rfl (wpAny_bind (slice_rev hs ps ?_))
  rw [List.size_toArray]
  refine wpAny_ite_false (by simp) ?_
  show wpAny _ _ (Builtin.Tuple.tupleExact (((List.range its.length).filterMap (fun k : Nat => its.toArray[(((its.length : Int) - 1) + (k : Int) * (-1)).toNat]?)).toArray) >>= _) _ _ _
  rw [range_rev]
  refine wpAny_bind (wpAny_newObj_type ?_ (show its.reverse.toArray.size ≤ sizeLine by simpa using hz))
  exact wpAny_pure ⟨_, rfl, wpAny_pure h⟩
def tRevT (K : PySem.W.Frag) (te : TE) : TE := fun σ H Q => te σ H fun x H1 => ∃ a xs, x = .ref a ∧ SqT K H1 a xs ∧ ∀ p, H1 p = none → Q (.ref p) (upd H1 p (.tup xs.reverse))
theorem pe_revT {X : Cx} {e : Expr} {te : TE} {k : Nat} {p1 p2 p3 pos : Pos} (he : PE X e te) :
    PE X (.Subscript e (.Slice none none (some (.UnaryOp .USub (.Constant (.int 1) k p1) p2)) p3) pos) (tRevT X.K te) := by
  refine ⟨fun pins s σ H Q I h => ?_⟩
  refine Subscript_ (thn (he.run pins s σ H _ I h) fun v s1 ⟨x, H1, I1, r1, a, xs, ex, hx, q⟩ => ?_)
  subst ex
  cases r1
  have hst : PO X (some (.UnaryOp .USub (.Constant (.int 1) k p1) p2)) _ := po_some (pe_un un_neg pe_int)
  refine wpAny_Slice (thn (po_none.run pins s1 σ H1 (fun o H2 => o = none ∧ H2 = H1) I1 ⟨rfl, rfl⟩) fun vl s2 ⟨l, H2, I2, pl, el, e2⟩ => ?_)
  subst el; subst e2
  refine thn (po_none.run pins s2 σ H2 (fun o H3 => o = none ∧ H3 = H2) I2 ⟨rfl, rfl⟩) fun vu s3 ⟨u, H3, I3, pu, eu, e3⟩ => ?_
  subst eu; subst e3
  refine thn (hst.run pins s3 σ H3 (fun o H4 => o = some (-1) ∧ H4 = H3) I3 ⟨1, rfl, -1, rfl, rfl, rfl⟩) fun vs s4 ⟨o, H4, I4, ps, eo, e4⟩ => ?_
  subst eo; subst e4
  cases pl
  cases pu
  have I5 := I4.kept (t' := s4.toks) fun b ob q => Heap.get?_push_of_some { cls := Value.type "slice", data := Data.fields #[.none, .none, vs] } q
  obtain ⟨its, r, ht, hz⟩ := I5.tuple hx
  refine tail_any ht.typeIs slot_tuple_getitem.lookup (getItem_tupleRev ht (Heap.IsSliceOf.new s4.heap .none .none vs) ps (by rw [← r.length]; exact hz) ?_) rfl
  refine ⟨.ref _, _, I5.laid (t' := s4.toks) (fun b ob q => Heap.get?_push_of_some _ q) (Nat.le_refl _) (o := .tup xs.reverse) ⟨?_, its.reverse, r.reverse, IsTup.new _ _⟩, rfl, q _ (I5.hok.fresh (Nat.le_refl _))⟩
  rw [List.length_reverse]
  exact hz
section
variable [TB : TabT] {K : PySem.W.Frag} {W : WX}
theorem Reps.reverse {F : Hp} : ∀ {vs : List V} {ds : List D}, Reps K F vs ds → Reps K F vs.reverse ds.reverse
  | _, _, .nil => .nil
  | _, _, .cons h r => by
    rw [List.reverse_cons, List.reverse_cons]
    exact (Reps.reverse r).append (.cons h .nil)
def wRevT (we : EW) : EW := fun τ q e => we τ (fun d τ' => ∃ es, d = .tup es ∧ q (.tup es.reverse) τ') e
theorem de_revT {t : TE} {w : EW} (h : DE K W t w) : DE K W (tRevT K t) (wRevT w) := by
  refine ⟨fun σ H τ F Q q e S hw k x => h.run σ H τ F _ _ e S hw (fun v d τ' F' H' t' r ⟨es, ed, hq⟩ => ?_) x⟩
  subst ed
  cases r with
  | @tup a xs _ hs r =>
    refine ⟨a, xs, rfl, SqT_mono t'.ok.sub hs, fun p hp => ?_⟩
    obtain ⟨x1, x2⟩ := new_ext (o := .tup xs.reverse) t'.ok.sub hp
    exact k _ _ τ' _ _ (t'.trans (.small t'.ok x1 x2)) (.tup (.inl (.inl upd_same)) (r.reverse.mono (new_same t'.ok.sub hp))) hq
theorem o_catT : Op2 K (rCatT K) gCatT := by
  rintro F H x y d1 d2 q Q s r1 r2 ⟨as, bs, rfl, rfl, hn, hl, hq⟩ k
  cases r1 with
  | @tup a xs _ h1 r1 =>
    cases r2 with
    | @tup b ys _ h2 r2 =>
      refine ⟨a, b, xs, ys, rfl, rfl, SqT_mono s h1, SqT_mono s h2, fun z => hn ?_, by rw [r1.length, r2.length]; exact Nat.le_of_lt (small1000 hl), fun z => ?_, fun z p hp => ?_⟩
      · subst z; cases r1; rfl
      · subst z
        cases r2
        exact k _ (.tup as) F H (.refl _ _ _) s (.tup h1 r1) (by rw [List.append_nil] at hq; exact hq)
      · obtain ⟨x1, x2⟩ := new_ext (o := .tup (xs ++ ys)) s hp
        exact k _ (.tup (as ++ bs)) _ _ x1 x2 (.tup (.inl (.inl upd_same)) ((r1.append r2).mono (new_same s hp))) hq
/-- an own list becomes data where it stands -/
def wFrz (i : Nat) : EW := fun τ q _ => ∃ p es, τ[i]? = some (.own p (.lst es)) ∧ q (.lst es) (τ.set i (.dat (.lst es)))
theorem de_frz (i : Nat) : DE K W (tVar i) (wFrz i) := by
  refine ⟨fun σ H τ F Q q e S ⟨p, es, e0, hq⟩ k _ => ?_⟩
  obtain ⟨s0, f0, vs0, h0, r0⟩ := own_lst S e0
  have hi : i < τ.length := (List.getElem?_eq_some_iff.mp e0).1
  refine ⟨.ref p, s0, ?_⟩
  have s : Same F (upd F p (.lst vs0)) := same_upd f0
  refine k (.ref p) (.lst es) _ (upd F p (.lst vs0)) H ⟨⟨s, fun a u e => ?_, fun _ _ e _ _ => e, fun _ e => e, fun g => ⟨g.1, nt_upd nt_lst g.2⟩⟩, fun q h => .inl (isOwn_set (c := .dat (.lst es)) (fun a z => z) h), ⟨⟨S.tabs.1, nt_upd nt_lst S.tabs.2⟩, fun a u e => ?_, by rw [List.length_set]; exact S.len, fun j v c h1 h2 => ?_, fun j c e => ?_, S.inj.set fun a z => z.elim⟩⟩ (.lst upd_same (r0.mono s)) hq
  · by_cases q : a = p
    · subst q; exact .inr (.inr (isOwn_at e0))
    · rw [upd_ne q] at e; exact .inl e
  · by_cases q : a = p
    · subst q; rw [upd_same] at e; rw [h0]; exact e
    · rw [upd_ne q] at e; exact S.sub a u e
  · by_cases e : i = j
    · subst e
      rw [List.getElem?_set_self hi] at h2
      cases h2
      rw [s0] at h1
      cases h1
      exact ⟨.ref p, rfl, .lst upd_same (r0.mono s)⟩
    · rw [List.getElem?_set_ne e] at h2
      exact (S.slot j v c h1 h2).mono s
  · rcases set_get e with ⟨_, rfl, _⟩ | ⟨n, e⟩
    · exact trivial
    · refine (S.own j c e).move s fun a f => ⟨?_, fun u hu _ => hu⟩
      rw [upd_ne (fun z => n (S.inj j i c _ a e e0 f (.inl z)))]
      exact ((S.own j c e).has f).1
end
end L3


/-! ## own classes: an instance is made, its fields are set -/
namespace L3
open PySem PySem.Spec PyProof.Rows L2
variable [TB : TabT]
section
variable {K : PySem.W.Frag} {W : WX}
def putD (f : Str) (d : D) : List (Str × D) → List (Str × D)
  | [] => [(f, d)]
  | (g, e) :: r => if g = f then (g, d) :: r else (g, e) :: putD f d r
theorem frep_put {F : Hp} {f : Str} {v : V} {d : D} (h : Rep K F v d) : ∀ {vs : List (Str × V)} {ds : List (Str × D)}, FRep K F vs ds → FRep K F (putF f v vs) (putD f d ds)
  | _, _, .nil => .cons h .nil
  | _, _, .cons (f := g) (v := u) (vs := vs) r t => by
    unfold putF putD
    by_cases e : g = f
    · simp only [e, if_true]
      exact .cons h t
    · simp only [e, if_false]
      exact .cons r (frep_put h t)
theorem FRep.length {F : Hp} : ∀ {vs : List (Str × V)} {ds : List (Str × D)}, FRep K F vs ds → vs.length = ds.length
  | _, _, .nil => rfl
  | _, _, .cons _ r => by rw [List.length_cons, List.length_cons, FRep.length r]
/-- self.f = e, in a method that has the object for its own -/
def wFld (C : Addr) (i : Nat) (f : Str) (we : EW) : SW := fun E τ => we τ (fun d τ1 => ∃ p dx fs, τ1[i]? = some (.own p (.obj C dx fs)) ∧ fs.length < 1000 ∧ E.nx (τ1.set i (.own p (.obj C dx (putD f d fs))))) E.ex
theorem ds_fld {C : Addr} {i : Nat} {f : Str} {t : TE} {w : EW} (hc : Cls K C) (hn : NoAttr K C f) (h : DE K W t w) : DS K W (sFld K (tVar i) t f) (wFld C i f w) := by
  refine ⟨fun σ H τ F Dn E S hw o => h.run σ H τ F _ _ E.ex S hw (fun v d τ1 F1 H1 t1 r1 ⟨p, dx, fs, e0, hl, hq⟩ => ?_) o.xto⟩
  obtain ⟨s0, f0, ob, h0, r0⟩ := own_at t1.ok e0
  cases r0 with
  | @obj _ _ vs _ r0 =>
    refine ⟨.ref p, s0, p, C, dx, vs, rfl, h0, hc, hn, by rw [r0.length]; exact hl, ?_⟩
    exact o.nx σ _ F1 _ (to_change t1 e0 (.obj (frep_put r1 r0))) hq
/-- an instance whose fields nobody looks at -/
def wMkO (C : Addr) (n : Nat) (fs : FS) (wa : AW) : EW := fun τ q e => wa τ (fun ds τ' => ds.length = n ∧ ∀ x dx, fs (.own x (.obj C dx []) :: ds.map .dat) (fun d cs' => d = .non ∧ (∃ gs, cs'[0]? = some (.own x (.obj C dx gs))) ∧ q (.oth (.ref C)) τ') noX) e
theorem reps_slots {F : Hp} : ∀ {vs : List V} {ds : List D}, Reps K F vs ds → ∀ (i : Nat) (s : Option V) (c : Cell), (vs.map some)[i]? = some s → (ds.map Cell.dat)[i]? = some c → SlotOk K F s c
  | _, _, .nil, i, s, c, h, _ => by simp at h
  | _, _, .cons r t, 0, s, c, h, h' => by
    cases h
    cases h'
    exact ⟨_, rfl, r⟩
  | _, _, .cons r t, i + 1, s, c, h, h' => reps_slots t i s c (by simpa using h) (by simpa using h')
theorem no_own_dat {ds : List D} {i : Nat} {p : Addr} {c : Cont} (h : (ds.map Cell.dat)[i]? = some (.own p c)) : False := by
  rw [List.getElem?_map] at h
  cases e : ds[i]? with
  | none => rw [e] at h; cases h
  | some d => rw [e] at h; cases h
theorem mk_has {a C dx x : Addr} {ds : List D} {i : Nat} {c : Cell} (e : (Cell.own a (.obj C dx []) :: ds.map Cell.dat)[i]? = some c) (f : Has c x) : i = 0 ∧ x = a := by
  cases i with
  | zero => cases e; exact ⟨rfl, flat_has (k := .obj C dx []) trivial f⟩
  | succ i =>
    rw [List.getElem?_cons_succ, List.getElem?_map] at e
    cases q : ds[i]? with
    | none => rw [q] at e; cases e
    | some d => rw [q] at e; cases e; exact f.elim
theorem mk_own {F H : Hp} {a C dx : Addr} {ds : List D} (fa : F a = none) (h : H a = some (.ins C dx [])) : OwnOk K F H (Cell.own a (.obj C dx []) :: ds.map Cell.dat) := fun i c e => by
  cases i with
  | zero => cases e; exact .flat trivial fa h (.obj .nil)
  | succ i =>
    rw [List.getElem?_cons_succ, List.getElem?_map] at e
    cases q : ds[i]? with
    | none => rw [q] at e; cases e
    | some d => rw [q] at e; cases e; exact trivial
theorem mk_inj {a C dx : Addr} {ds : List D} : InjOk (Cell.own a (.obj C dx []) :: ds.map Cell.dat) := fun i j c d x h1 h2 f1 f2 => by
  rw [(mk_has h1 f1).1, (mk_has h2 f2).1]
theorem mk_isOwn {a C dx x : Addr} {ds : List D} (h : IsOwn (Cell.own a (.obj C dx []) :: ds.map Cell.dat) x) : x = a := by
  obtain ⟨i, c, e, f⟩ := h
  exact (mk_has e f).2
theorem de_makeO {C : Addr} {n : Nat} {fs : FS} {t : TA} {w : AW} (c : InsTy K C) (h : DA K W t w) : DE K W (tMake C (spOf K (n + 1) fs) [] (fun _ _ _ => False) t) (wMkO C n fs w) := by
  refine ⟨fun σ H τ F Q q e S hw k x => h.run σ H τ F _ _ e S hw (fun vs ds τ' F' H' t' r ⟨hl, hf⟩ a dx ha hdx hne => ?_) x⟩
  have fa := new_not_data t'.ok ha
  have fdx := new_not_data t'.ok hdx
  have ha1 : (upd H' dx (.own a)) a = none := by rw [upd_ne (fun z => hne z.symm)]; exact ha
  have s2 : Same F' (upd (upd H' dx (.own a)) a (.ins C dx [])) := fun b o e => by
    rw [upd_ne (fun z => by rw [z, fa] at e; cases e), upd_ne (fun z => by rw [z, fdx] at e; cases e)]
    exact t'.ok.sub b o e
  refine ⟨by simp [r.length, hl], F', .own a (.obj C dx []) :: ds.map .dat, _, _, ⟨⟨tabs_new ha1 (tabs_new hdx t'.ok.tabs.1), t'.ok.tabs.2⟩, s2, by simp [r.length], fun i s cc h1 h2 => ?_, mk_own fa upd_same, mk_inj⟩, hf a dx, fun v d cs' F3 H3 x3 s3 c3 r3 ⟨ed, ⟨gs, e0⟩, hq⟩ => ?_, fun _ _ _ _ _ _ _ _ _ _ z => z⟩
  · cases i with
    | zero => cases h1; cases h2; exact rfl
    | succ i => exact reps_slots r i s cc (by simpa only [List.map_cons, List.getElem?_cons_succ, List.append_nil] using h1) (by simpa only [List.getElem?_cons_succ] using h2)
  · subst ed
    refine ⟨by cases r3; rfl, ?_⟩
    obtain ⟨f3, ob, h3, rep, _⟩ := c3.own 0 _ e0
    cases rep with
    | @obj _ _ us _ rep =>
      have e4 : Ext [] F' H' (upd F3 a (.ins C dx us)) H3 := by
        refine ⟨fun b o e => ?_, fun b o e => ?_, fun b o e _ nt => ?_, fun b e => ?_, fun z => ⟨(x3.tabs ⟨tabs_new ha1 (tabs_new hdx z.1), z.2⟩).1, nt_upd nt_ins (x3.tabs ⟨tabs_new ha1 (tabs_new hdx z.1), z.2⟩).2⟩⟩
        · rw [upd_ne (fun z => by rw [z, fa] at e; cases e)]
          exact x3.f b o e
        · by_cases z : b = a
          · subst z; exact .inr (.inl (fr_none ha))
          · rw [upd_ne z] at e
            rcases x3.new b o e with y | y | y
            · exact .inl y
            · refine .inr (.inl ?_)
              by_cases z2 : b = dx
              · rw [z2]; exact fr_none hdx
              · exact fun o' e' => y o' (by rw [upd_ne z, upd_ne z2]; exact e')
            · exact absurd (mk_isOwn y) z
        · have n1 : b ≠ a := fun z => by rw [z, ha] at e; cases e
          have n2 : b ≠ dx := fun z => by rw [z, hdx] at e; cases e
          refine x3.keep b o (by rw [upd_ne n1, upd_ne n2]; exact e) (fun y => n1 (mk_isOwn y)) nt
        · have y := x3.there b e
          by_cases n1 : b = a
          · rw [n1]; exact fr_none ha
          · by_cases n2 : b = dx
            · rw [n2]; exact fr_none hdx
            · exact fun o' e' => y o' (by rw [upd_ne n1, upd_ne n2]; exact e')
      have sub4 : Same (upd F3 a (.ins C dx us)) H3 := fun b o e => by
        by_cases z : b = a
        · subst z; rw [upd_same] at e; rw [h3]; exact e
        · rw [upd_ne z] at e; exact s3 b o e
      exact k _ _ τ' _ H3 (t'.trans (.small t'.ok e4 sub4)) (.oth (.base (.ins upd_same c.cl c.ha c.hn c.ht c.hm))) hq
end
end L3


/-! ## a lambda that is handed to a def which calls it under try -/
namespace L3
open PySem PySem.Spec PyProof.Rows L2
variable [TB : TabT]
section
variable {K : PySem.W.Frag} {W : WX}
theorem pss_ex {X : Cx} {st : List Stmt} {ι : Type} {P : ι → Prop} {t : ι → TS} (h : ∀ i, P i → PSs X st (t i)) : PSs X st (fun D σ H => ∃ i, P i ∧ (σ.length = X.N.length → t i D σ H)) :=
  ⟨fun pins s σ H D I ⟨i, hp, hq⟩ => (h i hp).run pins s σ H D I (hq I.len)⟩
/-- what a def does that calls what it is handed: "told" and what comes, or what `tell` makes of an own error -/
def toldE (K : PySem.W.Frag) (tell : Addr → List D → Prop) (Q : VK) : XK := fun cls d H' => ∃ (C : Addr) (bs : List Bool), cls = .ref C ∧ d = none ∧ tell C (bs.map D.bl) ∧
  ∀ l p, H' l = none → (upd H' l (.lst (bs.map V.bl))) p = none → Q (.ref p) (upd (upd H' l (.lst (bs.map V.bl))) p (.tup [.str "refused", .ref l, .int 0]))
def toldTT (K : PySem.W.Frag) (tell : Addr → List D → Prop) : (XK → Hp → VK → Prop) → Hp → VK → Prop := fun tl H Q => ∀ (E : XK) (Q' : VK),
  (∀ cls d H', toldE K tell Q cls d H' → E cls d H') → (∀ v H', (∀ p, H' p = none → Q (.ref p) (upd H' p (.tup [.str "told", v]))) → Q' v H') → tl E H Q'
def wTold (tell : Addr → List D → Prop) (w : EW) : EW := fun τ q _ => w τ (fun d τ' => q (.tup [.str "told", d]) τ') (fun x τ' => x.fs = [] ∧ ∃ bs : List Bool, tell x.cls (bs.map D.bl) ∧ q (.tup [.str "refused", .lst (bs.map D.bl), .int 0]) τ')
theorem reps_bls {F : Hp} : ∀ {bs : List Bool}, Reps K F (bs.map V.bl) (bs.map D.bl)
  | [] => .nil
  | b :: bs => .cons (.bl b) (reps_bls (bs := bs))
theorem de_told {tell : Addr → List D → Prop} {t : XK → TE} {w : EW} (h : ∀ E : XK, DE K (fun cls d _ H => E cls d H) (t E) w) : DE K W (LamX.tLam TB.T (toldTT K tell) t) (wTold tell w) := by
  refine ⟨fun σ H τ F Q q e S hw k x => ⟨S.tabs.1, fun H1 hx ht E Q' hE hQ => ?_⟩⟩
  have s1 : Same F H1 := fun a o e => hx a o (S.sub a o e) (S.tabs.2 a o e)
  have x1 : Ext [] F H F H1 := ⟨Same.refl F, fun _ _ e => .inl e, fun a o e _ nt => hx a o e nt, fun a fr o e nt => fr o (hx a o e nt) nt, fun g => ⟨ht, g.2⟩⟩
  have t1 : To K F H σ τ F H1 τ := .small S x1 s1
  refine (h E).run σ H1 τ F Q' _ _ t1.ok hw (fun v d τ' F' H' t' r hq => hQ v H' fun p hp => ?_) (fun y cls dx τ' F' H' t' r hq => hE cls dx H' ?_)
  · obtain ⟨x1, x2⟩ := new_ext (o := .tup [.str "told", v]) t'.ok.sub hp
    exact k _ (.tup [.str "told", d]) τ' _ _ ((t1.trans t').trans (.small t'.ok x1 x2)) (.tup (.inl (.inl upd_same)) (.cons (.str _) (.cons (r.mono (new_same t'.ok.sub hp)) .nil))) hq
  · obtain ⟨hf, bs, ht, hq⟩ := hq
    have dn : dx = none := by
      rcases r.f with z | z
      · exact z.2
      · exact absurd hf z.1
    refine ⟨y.cls, bs, r.c, dn, ht, fun l p hl hp => ?_⟩
    obtain ⟨x1, x2⟩ := new_ext (o := .lst (bs.map V.bl)) t'.ok.sub hl
    have t2 := (t1.trans t').trans (.small t'.ok x1 x2)
    obtain ⟨x3, x4⟩ := new_ext (o := .tup [.str "refused", .ref l, .int 0]) x2 hp
    have sF := new_same (o := .tup [.str "refused", .ref l, .int 0]) x2 hp
    exact k _ (.tup [.str "refused", .lst (bs.map D.bl), .int 0]) τ' _ _ (t2.trans (.small t2.ok x3 x4)) (.tup (.inl (.inl upd_same)) (.cons (.str _) (.cons (.lst (sF _ _ upd_same) reps_bls) (.cons (.int _) .nil)))) hq
end
end L3

/-! ## the frame of a law that hands lambdas about -/
namespace L3
open PySem PySem.Spec PyProof.Rows L2
variable [TB : TabT]
theorem pe_told {X : Cx} {st : Stmt} {x a : Str} {g c P : Addr} {fd : FuncData} {k : Nat} {Ng : List Str} {tell : Addr → List D → Prop} {params : Arguments} {body : Expr} {scope : Scope} {t : XK → TE} {p lpos pos : Pos}
    (F : Fun X.K x x st g fd) (hb : L2.Binds X.K fd [a] []) (hg : Gl X x) (hm : X.mg x = some (.ref g)) (Sg : FnScope Ng [a] (defScope st)) (hNg : Ng[0]? = some a) (hva : Vis (defScope st) a)
    (hG : ∀ cdv, LamX.GivesTo X Ng x (defScope st) g cdv (defBody st) a (X.env.qual ++ "<lambda>") (toldTT X.K tell)) (hT : LamX.TabB X.base X.mg c P) (hcode : X.env.code = .ref c)
    (hmT : (P, X.env.qual ++ Str.ofString "<lambda>") ∈ TB.T) (hu : ∀ p ∈ TB.T, p.1 = P → p.2 = X.env.qual ++ Str.ofString "<lambda>") (hr : Room (k + 2) X.A) (L : LamX.LamS X.env.scope scope) (hdef : defaultsOf params X.env = ([], []))
    (hbind : ∀ (q : Str) (cl : List (Str × Addr)) (pm cv ctv : Value), bindArgs (PySem.W.kla_fn (Str.ofString "<lambda>") q params body scope cl pm cv ctv) {} = pure [])
    (hbody : ∀ (A : Around) (outer : List Env) (s : Shared) (H : Hp) (E : XK) (f c' : Addr), Room k (A.deeper (LamX.lamEnv X scope s.heap.objs.size f c')) → PE (LamX.lamCx X A outer s H E scope f c') body (t E))
    (h1 : (x == Str.ofString "__debug__") = false := by decide) (h2 : (a == Str.ofString "__debug__") = false := by decide) (h3 : (a == Str.ofString "__classdict__") = false := by decide) :
    PE X (.Call (.Name x p) [.Lambda params body scope lpos] [] pos) (LamX.tLam TB.T (toldTT X.K tell) t) := by
  obtain ⟨oc, od, kV, doc, pm, an, cdv, ct, osl, rfl, lk, hcg⟩ := F.ex
  exact LamX.pe_lamcall hg hm F.kp lk hcg hb Sg hNg hva (hG cdv) hT hcode hmT hu hr L hdef hbind hbody h1 h2 h3
/-- a def whose code object is known -/
theorem def_okC {P : Program} {w : World} {K : PySem.W.Frag} {mg : Str → Option Value} {base : Heap} {x qual : Str} {st : Stmt} {f : Addr} {N ps : List Str} {k : Nat} {fs : FS} {wb : SW} {kV doc pm cdv ct oc : Value} {an od : Option Addr} {osl : Array (Option Value)}
    (lk : K.lookup f = some ⟨oc, od, .func (PySem.W.fnOf x qual (defArgs st) (defBody st) (defScope st) .none kV doc pm an cdv ct), osl⟩) (hcd : PySem.W.codeIn K cdv qual = true) (S : FnScope N ps (defScope st))
    (hw : ∀ cs q e, cs.length = ps.length → fs cs q e → wb ⟨fun τ => Keeps cs τ ∧ q .non (ends cs τ), fun d τ => Keeps cs τ ∧ q d (ends cs τ), fun _ _ => False, fun _ => False, fun _ => False, fun x τ => Keeps cs τ ∧ e x (ends cs τ)⟩ (cs ++ List.replicate (N.length - ps.length) .any))
    (hb : ∀ (A : Around) (outer : List Env) (s : Shared) (H : Hp) (E : XK), Room k (A.deeper (envOfC qual (defScope st) s.heap.objs.size f cdv)) → Takes (cxOf (L2.CX P w) P w K mg base N qual (defScope st) f cdv A outer s H E) (fun cls d _ H => E cls d H) →
      ∃ t, PSs (cxOf (L2.CX P w) P w K mg base N qual (defScope st) f cdv A outer s H E) (defBody st) t ∧ DS K (fun cls d _ H => E cls d H) t wb) :
    FnOk P w K mg base (L2.CX P w) (k + 1) f (PySem.W.fnOf x qual (defArgs st) (defBody st) (defScope st) .none kV doc pm an cdv ct) ps (spOf K ps.length fs) := by
  refine fn_of lk hcd S (fun vs H Q E h => h.1) (fun A outer s H vs Q E hr h => ?_)
  obtain ⟨t, h1, h2⟩ := hb A outer s H E hr (takes_of rfl rfl rfl rfl)
  refine ⟨t, h1, ?_⟩
  obtain ⟨hl, F, cs, q, e, S0, hf, kq, ke⟩ := h
  obtain ⟨lcs, S1⟩ := s_ok (N := N) S0 hl
  refine h2.run _ H _ F _ _ S1 (hw cs q e lcs hf) ⟨fun σ' τ' F' H' u ⟨k, hq⟩ => ?_, fun _ _ _ _ _ z => z, fun _ _ _ _ _ z => z, fun v d τ' F' H' u r ⟨k, hq⟩ => ?_, fun σ' x cls dx τ' F' H' u r ⟨k, hq⟩ => ?_, ?_⟩
  · exact kq .non .non _ F' H' u.ext.app u.ok.sub (cs_ok k u.ok.own u.ok.inj u.grow.app) .non hq
  · exact kq v d _ F' H' u.ext.app u.sub (cs_ok k u.own u.inj u.grow.app) r hq
  · exact ke x cls dx _ F' H' u.ext.app u.ok.sub (cs_ok k u.ok.own u.ok.inj u.grow.app) r hq
  · exact fun _ _ _ _ _ _ _ _ z => False.elim z
end L3

/-! ## lcm, max -/
namespace L3
open PySem PySem.Spec PyProof.Rows L2
variable [TB : TabT]
section
variable {K : PySem.W.Frag} {W : WX}
def rLcm : List V → Hp → VK → Prop := fun vs H Q => ∃ a b : Int, vs = [.int a, .int b] ∧ a.natAbs < 2 ^ 64 ∧ b.natAbs < 2 ^ 64 ∧ Q (.int ((Nat.lcm a.natAbs b.natAbs : Nat) : Int)) H
theorem cr_lcm {X : Cx} : CallR X (.builtin "math.lcm") rLcm := by
  intro pins s σ H vs us Q I r h
  obtain ⟨a, b, rfl, ha, hb, q⟩ := h
  obtain ⟨t, u, rfl⟩ := Vals.int2 r
  exact PySem.W.mc_lcm ha hb fun _ => ⟨.int _, H, I.tok (s.toks + 1), ⟨s.toks, rfl⟩, q⟩
def gLcm : List D → (D → Prop) → Prop := fun ds q => ∃ i j : Int, ds = [.int i, .int j] ∧ i.natAbs < 2 ^ 64 ∧ j.natAbs < 2 ^ 64 ∧ q (.int ((Nat.lcm i.natAbs j.natAbs : Nat) : Int))
theorem o_lcm : OpN K rLcm gLcm := by
  rintro F H xs ds q Q s r ⟨i, j, rfl, hi, hj, hq⟩ k
  obtain ⟨v, v', rfl, r1, r2⟩ := r.two
  exact ⟨i, j, by rw [r1.int_of, r2.int_of], hi, hj, k _ _ F H (.refl _ _ _) s (.int _) hq⟩
def mxI (a b : Int) : Int := if b > a then b else a
def rMax2 : List V → Hp → VK → Prop := fun xs H Q => ∃ i j, xs = [V.int i, V.int j] ∧ Q (V.int (if j > i then j else i)) H
def gMax2 : List D → (D → Prop) → Prop := fun ds q => ∃ i j : Int, ds = [.int i, .int j] ∧ q (.int (mxI i j))
theorem o_max2 : OpN K rMax2 gMax2 := by
  rintro F H xs ds q Q s r ⟨i, j, rfl, hq⟩ k
  obtain ⟨v, v', rfl, r1, r2⟩ := r.two
  exact ⟨i, j, by rw [r1.int_of, r2.int_of], k _ _ F H (.refl _ _ _) s (.int _) hq⟩
theorem nuMax3_int (a b c : Int) : nuMax3 (.int a) (.int b) (.int c) = some (.int (mxI (mxI a b) c)) := by
  have two : ∀ x y : Int, nuMax2 (.int x) (.int y) = some (.int (mxI x y)) := fun x y => by
    show Option.map (fun c => if c = true then V.int y else V.int x) (nuLt (.int x) (.int y)) = _
    have : nuLt (.int x) (.int y) = some (decide (x < y)) := rfl
    rw [this]
    unfold mxI
    by_cases h : x < y
    · simp [h]
    · simp [h]
  show (nuMax2 (.int a) (.int b)).bind _ = _
  rw [two]
  exact two _ _
def gMax3 : List D → (D → Prop) → Prop := fun ds q => ∃ i j l : Int, ds = [.int i, .int j, .int l] ∧ q (.int (mxI (mxI i j) l))
theorem o_max3 : OpN K (rNuC3 nuMax3) gMax3 := by
  rintro F H xs ds q Q s r ⟨i, j, l, rfl, hq⟩ k
  cases r with
  | cons r1 r =>
    obtain ⟨v, v', rfl, r2, r3⟩ := r.two
    exact ⟨.int i, .int j, .int l, _, by rw [r1.int_of, r2.int_of, r3.int_of], nuMax3_int i j l, k _ _ F H (.refl _ _ _) s (.int _) hq⟩
end
end L3

/-! ## instances as data, errors with a field -/
namespace L3
open PySem PySem.Spec PyProof.Rows L2
variable [TB : TabT]
/-- an error that is made, and a field of it read -/
def tMkF (K : PySem.W.Frag) (t : L2.St → Hp → XK → Prop) (f : Str) : TE := fun σ H Q => t σ H fun cls d H1 => ∃ (C dd : Addr) (fs : List (Str × V)) (v : V), cls = .ref C ∧ d = some dd ∧ H1 dd = some (.xd fs) ∧ L2.XfC K C ∧ PySem.W.findIn K (.ref C) f = some none ∧ fs.lookup f = some v ∧ Q v H1
theorem pe_mkf {X : Cx} {e : Expr} {t : L2.St → Hp → XK → Prop} {n : Str} {pos : Pos} (he : PMk X e t) (hb : attributeBase e n X.env (eval e X.env) = eval e X.env := by rfl) : PE X (.Attribute e n pos) (tMkF X.K t n) := by
  refine ⟨fun pins s σ H Q I h => ?_⟩
  refine attr_of hb (thn (he pins s σ H _ I h) fun u s1 hh => ?_)
  obtain ⟨a, oe, vs, sI, H', cls, d, rfl, J, k, hne, ha, hz, hd, h1, na, os, ag, r, q⟩ := hh
  obtain ⟨C, dd, fs, v, rfl, rfl, ea, T, hno, l, q⟩ := q
  have J2 : Inv X pins σ H' s1 := J.call' (ch := []) os (Un.kept k) (J.hok.kept k) ag (fun b z => absurd z (by simp))
  have hx : ObjOk X.prog X.w H' s1.heap dd (.xd fs) := J2.hok dd _ ea
  obtain ⟨mA, hns, hr⟩ := hx
  obtain ⟨od, ho, hl⟩ := lookIn_ns hns
  obtain ⟨u, hu, ru⟩ := RelO.some_of (v := v) (o := mA n) (by rw [← l]; exact hr n)
  have I4 : PySem.W.InstAt s1.heap a oe C (some od) := ⟨ha, hz.1, by unfold PySem.W.notCls; rw [hd] <;> rfl, by rw [hz.2]; exact ho⟩
  exact HandSPX.exc_get J2.kIn I4 T.ga T.gg T.exC (PySem.W.findObj_own T.hdC hno rfl (by rw [hl, hu])) (handed_of ru) ⟨v, H', J2.tok _, ru, q⟩
/-- isinstance(e, c), e the caught error, which has a dict -/
def rIsE1 (K : PySem.W.Frag) (D a : Addr) (d : Option Addr) : List V → Hp → VK → Prop := fun xs H Q => ∃ (c : V) (cv : Value) (b : Bool) (dd : Addr) (fs : List (Str × V)), xs = [.ref a, c] ∧ (∀ u, RelV c u → u = cv) ∧ PySem.W.kitOne K (.ref D) cv = some b ∧ d = some dd ∧ H dd = some (.xd fs) ∧ Q (.bl b) H
theorem call_isE1 {X : Cx} {a D : Addr} {d : Option Addr} {oe : Obj} {pn : List (Addr × Obj)} (C : ExcC X.K D) (hz : Zc (.ref D) d oe) (hf : ∃ vs, oe.data = .fields vs) : CallR (X.suite a ((a, oe) :: pn)) (.builtin "isinstance") (rIsE1 X.K D a d) := by
  intro pins s σ H xs us Q I r h
  obtain ⟨c, cv, b, dd, fs, rfl, hcv, e, rfl, hdd, q⟩ := h
  cases r with
  | cons rx rr =>
    cases rr with
    | cons rt rr =>
      cases rr
      cases rx
      have ec := hcv _ rt
      subst ec
      obtain ⟨hget, _⟩ := I.pin (a, oe) (List.mem_append.mpr (.inl List.mem_cons_self))
      obtain ⟨vs, hv⟩ := hf
      have hx : ObjOk X.prog X.w H s.heap dd (.xd fs) := I.hok dd _ hdd
      obtain ⟨mA, hns, hr⟩ := hx
      obtain ⟨od, ho, hl⟩ := lookIn_ns hns
      have J : PySem.W.InstAt s.heap a oe D (some od) := ⟨hget, hz.1, by unfold PySem.W.notCls; rw [hv] <;> rfl, by rw [hz.2]; exact ho⟩
      have hcl : (PySem.W.clsIn X.K D).isSome = true := by
        obtain ⟨cd, hc, _⟩ := PySem.W.any_some C.hd
        rw [hc]
        rfl
      exact PySem.W.kia_one (PySem.W.kitx_exc hcl C.hg C.hk C.hs C.ha C.hn C.ht C.hm) I.kIn J e (fun z => nomatch z) fun tk => ⟨.bl b, H, I.kept (t' := tk) fun _ _ z => z, rfl, q⟩
section
variable {K : PySem.W.Frag} {W : WX}
theorem FRep.lookup {F : Hp} {f : Str} {d : D} : ∀ {vs : List (Str × V)} {ds : List (Str × D)}, FRep K F vs ds → ds.lookup f = some d → ∃ v, vs.lookup f = some v ∧ Rep K F v d
  | _, _, .nil, e => by simp at e
  | _, _, .cons (f := g) (v := u) r t, e => by
    unfold List.lookup at e ⊢
    cases h : f == g with
    | true =>
      rw [h] at e
      cases e
      exact ⟨u, rfl, r⟩
    | false =>
      rw [h] at e
      exact FRep.lookup t e
/-- e.f of an instance -/
def wAttr (C : Addr) (f : Str) (we : EW) : EW := fun τ q e => we τ (fun d τ' => ∃ gs v, d = .ins C gs ∧ gs.lookup f = some v ∧ q v τ') e
theorem de_fld {C : Addr} {f : Str} {t : TE} {w : EW} (hc : Cls K C) (hn : NoAttr K C f) (h : DE K W t w) : DE K W (tFld K t f) (wAttr C f w) := by
  refine ⟨fun σ H τ F Q q e S hw k x => h.run σ H τ F _ _ e S hw (fun v d τ1 F1 H1 t1 r1 ⟨gs, y, ed, el, hq⟩ => ?_) x⟩
  subst ed
  cases r1 with
  | ins ha hr =>
    obtain ⟨u, e1, r2⟩ := hr.lookup el
    exact ⟨_, _, _, _, u, rfl, t1.ok.sub _ _ ha, hc, hn, e1, k u y τ1 F1 H1 t1 r2 hq⟩
/-- an instance that is made, and is data from then on -/
def wMkI (C : Addr) (n : Nat) (fs : FS) (wa : AW) : EW := fun τ q e => wa τ (fun ds τ' => ds.length = n ∧ ∀ x dx, fs (.own x (.obj C dx []) :: ds.map .dat) (fun d cs' => d = .non ∧ ∃ gs, cs'[0]? = some (.own x (.obj C dx gs)) ∧ q (.ins C gs) τ') (fun y _ => e y τ')) e
theorem passF {X : Cx} {E : XK} (tk : Takes X (fun cls d _ H => E cls d H)) : Passes (L2.CX X.prog X.w) X E := fun pins σ H s e s' I c => passAt tk σ pins H s e s' I c
theorem ext_make {F' H' F3 H3 : Hp} {a dx C : Addr} {cs : List Cell} (ha : H' a = none) (hdx : H' dx = none) (hne : dx ≠ a) (own0 : ∀ p, IsOwn cs p → p = a) (x3 : Ext cs F' (upd (upd H' dx (.own a)) a (.ins C dx [])) F3 H3) : Ext [] F' H' F3 H3 := by
  have ha1 : (upd H' dx (.own a)) a = none := by rw [upd_ne (fun z => hne z.symm)]; exact ha
  have fr : ∀ b, Fr (upd (upd H' dx (.own a)) a (.ins C dx [])) b → Fr H' b := fun b y => by
    by_cases n1 : b = a
    · rw [n1]; exact fr_none ha
    · by_cases n2 : b = dx
      · rw [n2]; exact fr_none hdx
      · exact fun o' e' => y o' (by rw [upd_ne n1, upd_ne n2]; exact e')
  refine ⟨x3.f, fun b o e => ?_, fun b o e _ nt => ?_, fun b e => fr b (x3.there b e), fun z => x3.tabs ⟨tabs_new ha1 (tabs_new hdx z.1), z.2⟩⟩
  · rcases x3.new b o e with y | y | y
    · exact .inl y
    · exact .inr (.inl (fr b y))
    · rw [own0 b y]; exact .inr (.inl (fr_none ha))
  · have n1 : b ≠ a := fun z => by rw [z, ha] at e; cases e
    have n2 : b ≠ dx := fun z => by rw [z, hdx] at e; cases e
    exact x3.keep b o (by rw [upd_ne n1, upd_ne n2]; exact e) (fun y => n1 (own0 b y)) nt
theorem de_makeI {C : Addr} {n : Nat} {fs : FS} {E : XK} {t : TA} {w : AW} (h : DA K (fun cls d _ H => E cls d H) t w) : DE K (fun cls d _ H => E cls d H) (tMake C (spOf K (n + 1) fs) [] E t) (wMkI C n fs w) := by
  refine ⟨fun σ H τ F Q q e S hw k x => h.run σ H τ F _ _ e S hw (fun vs ds τ' F' H' t' r ⟨hl, hf⟩ a dx ha hdx hne => ?_) x⟩
  have fa := new_not_data t'.ok ha
  have fdx := new_not_data t'.ok hdx
  have ha1 : (upd H' dx (.own a)) a = none := by rw [upd_ne (fun z => hne z.symm)]; exact ha
  have s2 : Same F' (upd (upd H' dx (.own a)) a (.ins C dx [])) := fun b o e => by
    rw [upd_ne (fun z => by rw [z, fa] at e; cases e), upd_ne (fun z => by rw [z, fdx] at e; cases e)]
    exact t'.ok.sub b o e
  have own1 : ∀ p, IsOwn (Cell.own a (.obj C dx []) :: ds.map Cell.dat) p → p = a := fun p y => mk_isOwn y
  refine ⟨by simp [r.length, hl], F', .own a (.obj C dx []) :: ds.map .dat, _, _, ⟨⟨tabs_new ha1 (tabs_new hdx t'.ok.tabs.1), t'.ok.tabs.2⟩, s2, by simp [r.length], fun i s cc h1 h2 => ?_, mk_own fa upd_same, mk_inj⟩, hf a dx, fun v d cs' F3 H3 x3 s3 c3 r3 ⟨ed, gs, e0, hq⟩ => ?_, fun y cls dx' cs' F3 H3 x3 s3 c3 r3 hq => ?_⟩
  · cases i with
    | zero => cases h1; cases h2; exact rfl
    | succ i => exact reps_slots r i s cc (by simpa only [List.map_cons, List.getElem?_cons_succ, List.append_nil] using h1) (by simpa only [List.getElem?_cons_succ] using h2)
  · subst ed
    refine ⟨by cases r3; rfl, ?_⟩
    obtain ⟨f3, ob, h3, rep, _⟩ := c3.own 0 _ e0
    cases rep with
    | @obj _ _ us _ rep =>
      have e5 := ext_make ha hdx hne own1 x3
      have s6 : Same F3 (upd F3 a (.ins C dx us)) := fun b o e => by rw [upd_ne (fun z => by rw [z, f3] at e; cases e)]; exact e
      have e4 : Ext [] F' H' (upd F3 a (.ins C dx us)) H3 := by
        refine ⟨fun b o e => s6 b o (e5.f b o e), fun b o e => ?_, e5.keep, e5.there, fun z => ⟨(e5.tabs z).1, nt_upd nt_ins (e5.tabs z).2⟩⟩
        by_cases z : b = a
        · rw [z]; exact .inr (.inl (fr_none ha))
        · rw [upd_ne z] at e
          exact e5.new b o e
      have sub4 : Same (upd F3 a (.ins C dx us)) H3 := fun b o e => by
        by_cases z : b = a
        · subst z; rw [upd_same] at e; rw [h3]; exact e
        · rw [upd_ne z] at e; exact s3 b o e
      exact k _ _ τ' _ H3 (t'.trans (.small t'.ok e4 sub4)) (.ins upd_same (rep.mono s6)) hq
  · exact x y cls dx' τ' F3 H3 (t'.trans (.small t'.ok (ext_make ha hdx hne own1 x3) s3)) r3 hq
/-! ### an error with one field -/
def spX1 (K : PySem.W.Frag) (C : Addr) (f : Str) : Sp := fun vs H Q _ => ∃ (a : Addr) (v : V), vs = [.ref a, v] ∧ H a = some (exo a C none) ∧ ∀ dx, H dx = none → dx ≠ a → Q .non (upd (upd H dx (exd dx [(f, v)])) a (exo a C (some dx)))
theorem exc1_ok {P : Program} {w : World} {mg : Str → Option Value} {base : Heap} {x qual f : Str} {st : Stmt} {fa C : Addr} {fd : FuncData} {p1 p2 p3 p4 : Pos} (Fn : Fun K x qual st fa fd) (S : FnScope ["self", f] ["self", f] (defScope st))
    (hb : defBody st = [.Assign [.Attribute (.Name "self" p1) f p2] (.Name f p3) p4]) (hf : ("self" : Str) ≠ f)
    (hs : ∀ X : Cx, swapsWith (.Name f p3) (some (.Attribute (.Name "self" p1) f p2)) p4.line X.env = pure false) (T : OexC K C) (hno : PySem.W.findIn K (.ref C) f = some none)
    (hp : ∀ (cdv : Value) (A : Around) (outer : List Env) (s : Shared) (H : Hp) (E : XK), PE (cxOf (L2.CX P w) P w K mg base ["self", f] qual (defScope st) fa cdv A outer s H E) (.Name "self" p1) (tVar 0) ∧ PE (cxOf (L2.CX P w) P w K mg base ["self", f] qual (defScope st) fa cdv A outer s H E) (.Name f p3) (tVar 1)) :
    FnOk P w K mg base (L2.CX P w) 1 fa fd ["self", f] (spX1 K C f) := by
  refine Fn.okX S (fun vs H Q E ⟨a, v, e, _⟩ => by rw [e]; rfl) (fun cdv A outer s H vs Q E hr h => ?_)
  obtain ⟨h0, h1⟩ := hp cdv A outer s H E
  obtain ⟨a, v, rfl, ha, hq⟩ := h
  rw [hb]
  refine ⟨_, pss_one (ps_ost (hs := hs _) h0 h1), ?_⟩
  exact ⟨v, rfl, .ref a, rfl, a, C, rfl, T, hno, .inl ⟨ha, fun dx h1 h2 => hq dx h1 h2⟩⟩
def wRaise1 (C : Addr) (f : Str) (we : EW) : SW := fun E τ => we τ (fun d τ' => E.ex ⟨C, [(f, d)]⟩ τ') E.ex
theorem del_back {H1 : Hp} {a d C : Addr} {fs : List (Str × V)} (ha : H1 a = none) (hda : d ≠ a) : upd (del (upd (upd (upd H1 a (exo a C none)) d (exd d fs)) a (exo a C (some d))) a) d (.xd fs) = upd H1 d (.xd fs) := by
  funext b
  by_cases h1 : b = d
  · rw [h1, upd_same, upd_same]
  · rw [upd_ne h1, upd_ne h1]
    by_cases h2 : b = a
    · rw [h2, del_same, ha]
    · rw [del_ne h2, upd_ne h2, upd_ne h1, upd_ne h2]
/-- what stands behind the making of such an error -/
theorem mk1_run {C : Addr} {f : Str} {v : V} {d : D} {F H : Hp} {σ : L2.St} {τ : List Cell} {Q : XK} (S : SOk K F H σ τ) (r : Rep K F v d)
    (h : ∀ dx, To K F H σ τ F (upd H dx (.xd [(f, v)])) τ → Q (.ref C) (some dx) (upd H dx (.xd [(f, v)]))) :
    [v].length ≤ 1000 ∧ ∀ a, H a = none → spX1 K C f (.ref a :: ([v] ++ [])) (upd H a (exo a C none))
      (fun u H2 => u = .non ∧ ∃ (d : Addr) (fs : List (Str × V)), H2 a = some (exo a C (some d)) ∧ H2 d = some (exd d fs) ∧ H d = none ∧ Q (.ref C) (some d) (upd (del H2 a) d (.xd fs))) (fun _ _ _ => False) := by
  refine ⟨by simp, fun a ha => ⟨a, v, rfl, upd_same, fun dx hd hne => ⟨rfl, dx, [(f, v)], upd_same, ?_, ?_, ?_⟩⟩⟩
  · rw [upd_ne hne, upd_same]
  · rw [upd_ne hne] at hd; exact hd
  · rw [del_back ha hne]
    rw [upd_ne hne] at hd
    refine h dx (.small S (Ext.laid0 hd) fun b o e => ?_)
    rw [upd_ne (fun z => by rw [z, new_not_data S hd] at e; cases e)]
    exact S.sub b o e
theorem ds_raise1 {C : Addr} {f : Str} {t : TE} {w : EW} (h : DE K W t w) : DS K W (fun _ σ H => tMkO C (spX1 K C f) [] (tCons t tNil) σ H fun cls d H' => W cls d σ H') (wRaise1 C f w) := by
  refine ⟨fun σ H τ F Dn E S hw o => h.run σ H τ F _ _ E.ex S hw (fun v d τ1 F1 H1 t1 r1 hq => ?_) o.xto⟩
  refine mk1_run (C := C) (f := f) (Q := fun cls d H' => W cls d σ H') t1.ok r1 fun dx t2 => ?_
  exact o.ex σ ⟨C, [(f, d)]⟩ _ (some dx) τ1 F1 _ (t1.trans t2) ⟨rfl, .inr ⟨by simp, dx, _, rfl, upd_same, .cons r1 .nil⟩⟩ hq
/-- the field of an error that is made -/
def wMkF (f : Str) (we : EW) : EW := fun τ q e => we τ q e
theorem de_mkf {C : Addr} {f : Str} {t : TE} {w : EW} (T : L2.XfC K C) (hno : PySem.W.findIn K (.ref C) f = some none) (h : DE K W t w) : DE K W (tMkF K (tMkO C (spX1 K C f) [] (tCons t tNil)) f) (wMkF f w) := by
  refine ⟨fun σ H τ F Q q e S hw k x => h.run σ H τ F _ _ e S hw (fun v d τ1 F1 H1 t1 r1 hq => ?_) x⟩
  refine mk1_run (C := C) (f := f) (Q := fun cls d H1 => ∃ (C dd : Addr) (fs : List (Str × V)) (v : V), cls = .ref C ∧ d = some dd ∧ H1 dd = some (.xd fs) ∧ L2.XfC K C ∧ PySem.W.findIn K (.ref C) f = some none ∧ fs.lookup f = some v ∧ Q v H1) t1.ok r1 fun dx t2 => ?_
  refine ⟨C, dx, _, v, rfl, rfl, upd_same, T, hno, by simp [List.lookup], ?_⟩
  exact k v d τ1 F1 _ (t1.trans t2) r1 hq
/-! ### what a def does that calls what it is handed, and an error with a field comes -/
def toldE1 (K : PySem.W.Frag) (f : Str) (tell : Addr → List D → Prop) (Q : VK) : XK := fun cls d H' => ∃ (C dd : Addr) (vs : List (Str × V)) (v : V) (bs : List Bool), cls = .ref C ∧ d = some dd ∧ H' dd = some (.xd vs) ∧ vs.lookup f = some v ∧ tell C (bs.map D.bl) ∧
  ∀ l p, H' l = none → (upd H' l (.lst (bs.map V.bl))) p = none → Q (.ref p) (upd (upd H' l (.lst (bs.map V.bl))) p (.tup [.str "refused", .ref l, v]))
def toldTT1 (K : PySem.W.Frag) (f : Str) (tell : Addr → List D → Prop) : (XK → Hp → VK → Prop) → Hp → VK → Prop := fun tl H Q => ∀ (E : XK) (Q' : VK),
  (∀ cls d H', toldE1 K f tell Q cls d H' → E cls d H') → (∀ v H', (∀ p, H' p = none → Q (.ref p) (upd H' p (.tup [.str "told", v]))) → Q' v H') → tl E H Q'
def wTold1 (f : Str) (tell : Addr → List D → Prop) (w : EW) : EW := fun τ q _ => w τ (fun d τ' => q (.tup [.str "told", d]) τ') (fun x τ' => ∃ v, x.fs = [(f, v)] ∧ ∃ bs : List Bool, tell x.cls (bs.map D.bl) ∧ q (.tup [.str "refused", .lst (bs.map D.bl), v]) τ')
theorem de_told1 {f : Str} {tell : Addr → List D → Prop} {t : XK → TE} {w : EW} (h : ∀ E : XK, DE K (fun cls d _ H => E cls d H) (t E) w) : DE K W (LamX.tLam TB.T (toldTT1 K f tell) t) (wTold1 f tell w) := by
  refine ⟨fun σ H τ F Q q e S hw k x => ⟨S.tabs.1, fun H1 hx ht E Q' hE hQ => ?_⟩⟩
  have s1 : Same F H1 := fun a o e => hx a o (S.sub a o e) (S.tabs.2 a o e)
  have x1 : Ext [] F H F H1 := ⟨Same.refl F, fun _ _ e => .inl e, fun a o e _ nt => hx a o e nt, fun a fr o e nt => fr o (hx a o e nt) nt, fun g => ⟨ht, g.2⟩⟩
  have t1 : To K F H σ τ F H1 τ := .small S x1 s1
  refine (h E).run σ H1 τ F Q' _ _ t1.ok hw (fun v d τ' F' H' t' r hq => hQ v H' fun p hp => ?_) (fun y cls dx τ' F' H' t' r hq => hE cls dx H' ?_)
  · obtain ⟨x1, x2⟩ := new_ext (o := .tup [.str "told", v]) t'.ok.sub hp
    exact k _ (.tup [.str "told", d]) τ' _ _ ((t1.trans t').trans (.small t'.ok x1 x2)) (.tup (.inl (.inl upd_same)) (.cons (.str _) (.cons (r.mono (new_same t'.ok.sub hp)) .nil))) hq
  · obtain ⟨d, hf, bs, ht, hq⟩ := hq
    rcases r.f with z | ⟨_, dd, vs, rfl, hd, fr⟩
    · rw [hf] at z; cases z.1
    rw [hf] at fr
    obtain ⟨v, e1, rv⟩ := fr.lookup (f := f) (d := d) (by simp [List.lookup])
    refine ⟨y.cls, dd, vs, v, bs, r.c, rfl, hd, e1, ht, fun l p hl hp => ?_⟩
    obtain ⟨x1, x2⟩ := new_ext (o := .lst (bs.map V.bl)) t'.ok.sub hl
    have sL := new_same (o := .lst (bs.map V.bl)) t'.ok.sub hl
    have t2 := (t1.trans t').trans (.small t'.ok x1 x2)
    obtain ⟨x3, x4⟩ := new_ext (o := .tup [.str "refused", .ref l, v]) x2 hp
    have sF := new_same (o := .tup [.str "refused", .ref l, v]) x2 hp
    exact k _ (.tup [.str "refused", .lst (bs.map D.bl), d]) τ' _ _ (t2.trans (.small t2.ok x3 x4)) (.tup (.inl (.inl upd_same)) (.cons (.str _) (.cons (.lst (sF _ _ upd_same) reps_bls) (.cons ((rv.mono sL).mono sF) .nil)))) hq
end
theorem pe_toldG {TT : (XK → Hp → VK → Prop) → Hp → VK → Prop} {X : Cx} {st : Stmt} {x a : Str} {g c P : Addr} {fd : FuncData} {k : Nat} {Ng : List Str} {params : Arguments} {body : Expr} {scope : Scope} {t : XK → TE} {p lpos pos : Pos}
    (F : Fun X.K x x st g fd) (hb : L2.Binds X.K fd [a] []) (hg : Gl X x) (hm : X.mg x = some (.ref g)) (Sg : FnScope Ng [a] (defScope st)) (hNg : Ng[0]? = some a) (hva : Vis (defScope st) a)
    (hG : ∀ cdv, LamX.GivesTo X Ng x (defScope st) g cdv (defBody st) a (X.env.qual ++ "<lambda>") TT) (hT : LamX.TabB X.base X.mg c P) (hcode : X.env.code = .ref c)
    (hmT : (P, X.env.qual ++ Str.ofString "<lambda>") ∈ TB.T) (hu : ∀ p ∈ TB.T, p.1 = P → p.2 = X.env.qual ++ Str.ofString "<lambda>") (hr : Room (k + 2) X.A) (L : LamX.LamS X.env.scope scope) (hdef : defaultsOf params X.env = ([], []))
    (hbind : ∀ (q : Str) (cl : List (Str × Addr)) (pm cv ctv : Value), bindArgs (PySem.W.kla_fn (Str.ofString "<lambda>") q params body scope cl pm cv ctv) {} = pure [])
    (hbody : ∀ (A : Around) (outer : List Env) (s : Shared) (H : Hp) (E : XK) (f c' : Addr), Room k (A.deeper (LamX.lamEnv X scope s.heap.objs.size f c')) → PE (LamX.lamCx X A outer s H E scope f c') body (t E))
    (h1 : (x == Str.ofString "__debug__") = false := by decide) (h2 : (a == Str.ofString "__debug__") = false := by decide) (h3 : (a == Str.ofString "__classdict__") = false := by decide) :
    PE X (.Call (.Name x p) [.Lambda params body scope lpos] [] pos) (LamX.tLam TB.T TT t) := by
  obtain ⟨oc, od, kV, doc, pm, an, cdv, ct, osl, rfl, lk, hcg⟩ := F.ex
  exact LamX.pe_lamcall hg hm F.kp lk hcg hb Sg hNg hva (hG cdv) hT hcode hmT hu hr L hdef hbind hbody h1 h2 h3
/-! ### a chain of three comparisons -/
def tChain3 (r r' r'' : R2) (ta tb tc td : TE) : TE := fun σ H Q => ta σ H fun x H1 => tb σ H1 fun y H2 => r x y H2 fun z H3 => ∃ k, z = .bl k ∧
  (if k = true then tc σ H3 fun w' H4 => r' y w' H4 fun z' H5 => ∃ k', z' = .bl k' ∧ (if k' = true then td σ H5 fun w2 H6 => r'' w' w2 H6 Q else Q (.bl false) H5) else Q (.bl false) H3)
theorem pe_chain3 {X : Cx} {a b c d : Expr} {ta tb tc td : TE} {pos : Pos} {op op' op'' : CmpOp} {r r' r'' : R2} (ho : OpR X (compareOp op) r) (ho' : OpR X (compareOp op') r') (ho'' : OpR X (compareOp op'') r'') (ha : PE X a ta) (hb : PE X b tb) (hc : PE X c tc) (hd : PE X d td)
    (hm : lastMarks [op, op', op''] [b, c, d] = false := by with_unfolding_all rfl) : PE X (.Compare a [op, op', op''] [b, c, d] pos) (tChain3 r r' r'' ta tb tc td) := by
  refine ⟨fun pins s σ H Q I h => ?_⟩
  refine Compare_chain (thn (ha.run pins s σ H _ I h) fun v s1 ⟨x, H1, I1, r1, q1⟩ => chain_link (thn (hb.run pins s1 σ H1 _ I1 q1) fun u s2 ⟨y, H2, I2, r2, q2⟩ =>
    thn (ho pins s2 σ H2 x y v u _ I2 r1 r2 q2) fun d s3 ⟨z, H3, I3, r3, k, e, q3⟩ => ?_)) hm
  subst e
  cases r3
  refine wpAny_truthy_bool ?_
  cases k with
  | false => exact ite_ff ⟨.bl false, H3, I3, rfl, q3⟩
  | true =>
    refine ite_tt (chain_link (thn (hc.run pins s3 σ H3 _ I3 q3) fun w' s4 ⟨z', H4, I4, r4, q4⟩ => thn (ho' pins s4 σ H4 y z' u w' _ I4 r2 r4 q4) fun d' s5 ⟨z2, H5, I5, r5, k2, e2, q5⟩ => ?_))
    subst e2
    cases r5
    refine wpAny_truthy_bool ?_
    cases k2 with
    | false => exact ite_ff ⟨.bl false, H5, I5, rfl, q5⟩
    | true => exact ite_tt (chain_last (thn (hd.run pins s5 σ H5 _ I5 q5) fun w2 s6 ⟨z3, H6, I6, r6, q6⟩ => ho'' pins s6 σ H6 z' z3 w' w2 Q I6 r4 r6 q6))
section
variable {K : PySem.W.Frag} {W : WX}
def wChain3 (g g' g'' : D → D → (D → Prop) → Prop) (wa wb wc wd : EW) : EW := fun τ q e => wa τ (fun d1 τ1 => wb τ1 (fun d2 τ2 => g d1 d2 fun d => ∃ b, d = .bl b ∧
  (b = true → wc τ2 (fun d3 τ3 => g' d2 d3 fun d => ∃ b', d = .bl b' ∧ (b' = true → wd τ3 (fun d4 τ4 => g'' d3 d4 fun d => q d τ4) e) ∧ (b' = false → q (.bl false) τ3)) e) ∧ (b = false → q (.bl false) τ2)) e) e
theorem de_chain3 {r r' r'' : R2} {g g' g'' : D → D → (D → Prop) → Prop} {ta tb tc td : TE} {wa wb wc wd : EW} (o : Op2 K r g) (o' : Op2 K r' g') (o'' : Op2 K r'' g'') (ha : DE K W ta wa) (hb : DE K W tb wb) (hc : DE K W tc wc) (hd : DE K W td wd) : DE K W (tChain3 r r' r'' ta tb tc td) (wChain3 g g' g'' wa wb wc wd) := by
  refine ⟨fun σ H τ F Q q e S h k x => ?_⟩
  refine ha.run σ H τ F _ _ e S h (fun v1 d1 τ1 F1 H1 t1 r1 h1 => ?_) x
  refine hb.run σ H1 τ1 F1 _ _ e t1.ok h1 (fun v2 d2 τ2 F2 H2 t2 r2 h2 => ?_) (x.of t1)
  refine o F2 H2 v1 v2 d1 d2 _ _ t2.ok.sub (r1.mono t2.ext.f) r2 h2 fun v d F3 H3 e3 s3 r3 ⟨b, eb, h3, h4⟩ => ?_
  subst eb
  have t3 : To K F2 H2 σ τ2 F3 H3 τ2 := .small t2.ok e3 s3
  have t03 := (t1.trans t2).trans t3
  refine ⟨b, r3.bl_of, ?_⟩
  cases b with
  | false => exact iteF (k _ _ τ2 F3 H3 t03 (.bl false) (h4 rfl))
  | true =>
    refine iteT ?_
    refine hc.run σ H3 τ2 F3 _ _ e t3.ok (h3 rfl) (fun v4 d4 τ4 F4 H4 t4 r4 h5 => ?_) (x.of t03)
    refine o' F4 H4 v2 v4 d2 d4 _ _ t4.ok.sub (r2.mono ((e3.f).trans t4.ext.f)) r4 h5 fun v d F5 H5 e5 s5 r5 ⟨b', eb', h6, h7⟩ => ?_
    subst eb'
    have t5 : To K F4 H4 σ τ4 F5 H5 τ4 := .small t4.ok e5 s5
    have t05 := (t03.trans t4).trans t5
    refine ⟨b', r5.bl_of, ?_⟩
    cases b' with
    | false => exact iteF (k _ _ τ4 F5 H5 t05 (.bl false) (h7 rfl))
    | true =>
      refine iteT ?_
      refine hd.run σ H5 τ4 F5 _ _ e t5.ok (h6 rfl) (fun v6 d6 τ6 F6 H6 t6 r6 h8 => ?_) (x.of t05)
      refine o'' F6 H6 v4 v6 d4 d6 _ Q t6.ok.sub (r4.mono ((e5.f).trans t6.ext.f)) r6 h8 fun v d F7 H7 e7 s7 r7 h9 => ?_
      exact k v d τ6 F7 H7 ((t05.trans t6).trans (.small t6.ok e7 s7)) r7 h9
end
end L3

/-! ## tuples: + and slices of any kind, order of pairs; truth of a sequence -/
namespace L3
open PySem PySem.Spec PyProof.Rows L2
variable [TB : TabT]
section
variable {K : PySem.W.Frag} {W : WX}
def gCatA : D → D → (D → Prop) → Prop := fun x y q => ∃ as bs, x = .tup as ∧ y = .tup bs ∧ as.length + bs.length ≤ 1000 ∧ q (.tup (as ++ bs))
theorem Reps.nil_l {F : Hp} {xs : List V} {ds : List D} (r : Reps K F xs ds) : xs = [] ↔ ds = [] := by
  cases r <;> simp
theorem o_catA : Op2 K (rCatA K) gCatA := by
  rintro F H x y d1 d2 q Q s r1 r2 ⟨as, bs, rfl, rfl, hl, hq⟩ k
  cases r1 with
  | @tup a xs _ h1 r1 =>
    cases r2 with
    | @tup b ys _ h2 r2 =>
      refine ⟨a, b, xs, ys, rfl, rfl, SqT_mono s h1, SqT_mono s h2, by rw [r1.length, r2.length]; exact Nat.le_of_lt (small1000 hl), fun z => ?_, fun _ z => ?_, fun z1 z2 p hp => ?_⟩
      · have e := r1.nil_l.mp z
        subst e
        exact k _ (.tup _) F H (.refl _ _ _) s (.tup h2 r2) hq
      · have e := r2.nil_l.mp z
        subst e
        rw [List.append_nil] at hq
        exact k _ (.tup _) F H (.refl _ _ _) s (.tup h1 r1) hq
      · obtain ⟨x1, x2⟩ := new_ext (o := .tup (xs ++ ys)) s hp
        exact k _ (.tup (as ++ bs)) _ _ x1 x2 (.tup (.inl (.inl upd_same)) ((r1.append r2).mono (new_same s hp))) hq
/-- t[lo:hi] of any kind -/
def wSlA (we : EW) (wl wh : OW) : EW := fun τ q e => we τ (fun d τ1 => wl τ1 (fun lo τ2 => wh τ2 (fun hi τ3 => ∃ es, d = .tup es ∧ q (.tup (cutDs es lo hi)) τ3) e) e) e
theorem cutDs_whole {α : Type} {xs : List α} {lo hi : Option Int} (h1 : HT.sIx xs.length 0 lo = 0) (h2 : HT.sIx xs.length xs.length hi = xs.length) : cutDs xs lo hi = xs := by
  unfold cutDs
  rw [h1, h2]
  simp
theorem de_slA {t : TE} {tl th : TO} {w : EW} {wl wh : OW} (h : DE K W t w) (hl : DO K W tl wl) (hh : DO K W th wh) : DE K W (tSl (L2.rSlA K) t tl th) (wSlA w wl wh) := by
  refine ⟨fun σ H τ F Q q e S hw k x => h.run σ H τ F _ _ e S hw (fun z d τ1 F1 H1 t1 r1 h1 => ?_) x⟩
  refine hl.run σ H1 τ1 F1 _ _ e t1.ok h1 (fun lo τ2 F2 H2 t2 h2 => ?_) (x.of t1)
  refine hh.run σ H2 τ2 F2 _ _ e t2.ok h2 (fun hi τ3 F3 H3 t3 h3 => ?_) (x.of (t1.trans t2))
  obtain ⟨es, rfl, hq⟩ := h3
  have r3 := (r1.mono t2.ext.f).mono t3.ext.f
  cases r3 with
  | @tup a xs _ hs r =>
    refine ⟨a, xs, rfl, SqT_mono t3.ok.sub hs, fun hw => ?_, fun hn p hp => ?_⟩
    · rw [r.length] at hw
      rw [cutDs_whole hw.1 hw.2] at hq
      exact k _ (.tup es) τ3 _ _ ((t1.trans t2).trans t3) (.tup hs r) hq
    · obtain ⟨x1, x2⟩ := new_ext (o := .tup (cutV xs lo hi)) t3.ok.sub hp
      exact k _ (.tup (cutDs es lo hi)) τ3 _ _ (((t1.trans t2).trans t3).trans (.small t3.ok x1 x2)) (.tup (.inl (.inl upd_same)) ((cut_rep r).mono (new_same t3.ok.sub hp))) hq
/-- order of tuples of ints -/
def gLtT : D → D → (D → Prop) → Prop := fun x y q => ∃ ns ms : List Int, x = .tup (ns.map D.int) ∧ y = .tup (ms.map D.int) ∧ q (.bl (HT.lexLt ns ms))
def leInts (ns ms : List Int) : Bool := Ob.lexAt (fun j => decide (ns.getD j 0 = ms.getD j 0)) (fun j => decide (ns.getD j 0 ≤ ms.getD j 0)) (decide (ns.length ≤ ms.length)) 0 (min ns.length ms.length)
def gLeT : D → D → (D → Prop) → Prop := fun x y q => ∃ ns ms : List Int, x = .tup (ns.map D.int) ∧ y = .tup (ms.map D.int) ∧ q (.bl (leInts ns ms))
theorem Rep.tupInts {F : Hp} {v : V} {ns : List Int} (h : Rep K F v (.tup (ns.map D.int))) : ∃ a, v = .ref a ∧ SqT K F a (ns.map V.int) := by
  cases h with
  | @tup a xs _ h r =>
    have e := r.intsV
    subst e
    exact ⟨a, rfl, h⟩
theorem o_ltT : Op2 K (rLtT K) gLtT := by
  rintro F H x y d1 d2 q Q s r1 r2 ⟨ns, ms, rfl, rfl, hq⟩ k
  obtain ⟨a, rfl, h1⟩ := r1.tupInts
  obtain ⟨b, rfl, h2⟩ := r2.tupInts
  exact ⟨a, b, ns, ms, rfl, rfl, SqT_mono s h1, SqT_mono s h2, k _ (.bl _) F H (.refl _ _ _) s (.bl _) hq⟩
theorem o_leT : Op2 K (L2.rLeT K) gLeT := by
  rintro F H x y d1 d2 q Q s r1 r2 ⟨ns, ms, rfl, rfl, hq⟩ k
  obtain ⟨a, rfl, h1⟩ := r1.tupInts
  obtain ⟨b, rfl, h2⟩ := r2.tupInts
  exact ⟨a, b, ns, ms, rfl, rfl, SqT_mono s h1, SqT_mono s h2, k _ (.bl _) F H (.refl _ _ _) s (.bl _) hq⟩
/-- the truth of a thing -/
def truD : D → Option Bool | .non => some false | .bl b => some b | .int i => some (i != 0) | .tup ds => some (!ds.isEmpty) | .lst ds => some (!ds.isEmpty) | .fl ds => some (!ds.isEmpty) | _ => none
def wTru (we : EW) : TW := fun τ q e => we τ (fun d τ' => ∃ b, truD d = some b ∧ q b τ') e
theorem Reps.isEmpty {F : Hp} {xs : List V} {ds : List D} (r : Reps K F xs ds) : xs.isEmpty = ds.isEmpty := by cases r <;> rfl
theorem dt_tru {t : TE} {w : EW} (h : DE K W t w) : DT K W (fun σ H Q => t σ H fun x H' => ∃ k, TruV K x H' k ∧ Q k H') (wTru w) := by
  refine ⟨fun σ H τ F Q q e S hw k x => h.run σ H τ F _ _ e S hw (fun z d τ1 F1 H1 t1 r1 ⟨b, eb, hq⟩ => ⟨b, ?_, k b τ1 F1 H1 t1 hq⟩) x⟩
  cases r1 with
  | non => cases eb; rfl
  | bl b => cases eb; rfl
  | int i => cases eb; rfl
  | tup h r =>
    cases eb
    exact .inr (.inl ⟨_, SqT_mono t1.ok.sub h, by rw [r.isEmpty]⟩)
  | lst h r =>
    cases eb
    exact .inl ⟨_, .inl (.inl (t1.ok.sub _ _ h)), by rw [r.isEmpty]⟩
  | fl h r =>
    cases eb
    exact .inl ⟨_, t1.ok.sub.seq h, by rw [r.isEmpty]⟩
  | _ => cases eb
end
end L3

/-! ## enumerate of a list, any, min, in, x[i] += e, a comprehension that is the frame's own -/
namespace L3
open PySem PySem.Spec PyProof.Rows L2
variable [TB : TabT]
/-- xs[k], k from 0 on -/
def rGetN : V → V → Hp → VK → Prop := fun o i H Q => ∃ p xs k v, o = .ref p ∧ i = .int k ∧ H p = some (.lst xs) ∧ 0 ≤ k ∧ xs[k.toNat]? = some v ∧ Q v H
theorem get_listN {X : Cx} : PGet X rGetN := by
  intro pins s σ H o i ov iv Q I ro ri h
  obtain ⟨p, xs, k, v, rfl, rfl, hp, h0, hv, q⟩ := h
  cases ro
  obtain ⟨tk, rfl⟩ := ri
  obtain ⟨its, rv, pl, hz⟩ := I.list (.inl (.inl hp))
  have hl := rv.length
  obtain ⟨hlt, _⟩ := List.getElem?_eq_some_iff.mp hv
  have hsz := sizeLine_eq
  obtain ⟨u, hu, ru⟩ := Vals.get rv hv
  refine getItem_listL pl.isList h0 (by omega) hu ?_
  exact ⟨v, H, I, ru, q⟩
theorem lt65 {k : Nat} {A : Around} (r : Room k A) : A.units + 65 < cLine := by have := r.un; omega
def rInT (K : PySem.W.Frag) : R2 := fun x y H Q => ∃ d ds, Dp K H x d ∧ Dp K H y (.tuple ds) ∧ SeqAt.shaped d = true ∧ SeqAt.shaped (.tuple ds) = true ∧ Q (.bl (ds.any fun z => PyData.eqv z d)) H
theorem op_inT {X : Cx} (hu : X.A.units + 65 < cLine) : OpR X (compareOp .In) (rInT X.K) := by
  intro pins s σ H x y v u Q I rx ry h
  obtain ⟨d, ds, hd, he, sd, se, q⟩ := h
  obtain ⟨as, r1⟩ := Dp.reads I d x v hd rx
  obtain ⟨bs, r2⟩ := Dp.reads I (.tuple ds) y u he ry
  exact SeqAt.in_tuple_reads r2 r1 (SeqAt.canLay_of_shaped se) (SeqAt.canLay_of_shaped sd) (room_in_shaped sd hu) ⟨.bl _, H, I, rfl, q⟩
theorem ixN_ltN {n j : Nat} (h : j < n) : ixN n (j : Int) = some j := by
  unfold ixN
  rw [if_pos (by omega)]
  simp
  omega
section
variable {K : PySem.W.Frag} {W : WX}
def gInT : D → D → (D → Prop) → Prop := fun x y q => ∃ d ds, toPy x = some d ∧ toPy y = some (.tuple ds) ∧ SeqAt.shaped d = true ∧ SeqAt.shaped (.tuple ds) = true ∧ q (.bl (ds.any fun z => PyData.eqv z d))
theorem o_inT : Op2 K (rInT K) gInT := by
  rintro F H x y d1 d2 q Q s r1 r2 ⟨v, ds, e1, e2, h1, h2, hq⟩ k
  exact ⟨v, ds, Dp_mono s (dp_of r1 e1), Dp_mono s (dp_of r2 e2), h1, h2, k _ _ F H (.refl _ _ _) s (.bl _) hq⟩
def gAny : List D → (D → Prop) → Prop := fun ds q => ∃ (es : List D) (bs : List Bool), (ds = [.lst es] ∨ ds = [.fl es]) ∧ es = bs.map D.bl ∧ q (.bl (bs.any id))
theorem o_any : OpN K (rAny K) gAny := by
  rintro F H xs ds q Q s r ⟨es, bs, e, rfl, hq⟩ k
  rcases e with rfl | rfl
  · obtain ⟨v, rfl, r1⟩ := r.one
    cases r1 with
    | lst h r2 =>
      have := Reps.bls r2
      subst this
      exact ⟨_, bs, rfl, .inl (.inl (s _ _ h)), k _ _ F H (.refl _ _ _) s (.bl _) hq⟩
  · obtain ⟨v, rfl, r1⟩ := r.one
    cases r1 with
    | fl h r2 =>
      have := Reps.bls r2
      subst this
      exact ⟨_, bs, rfl, s.seq h, k _ _ F H (.refl _ _ _) s (.bl _) hq⟩
def mnI (a b : Int) : Int := if b < a then b else a
def rMin2 : List V → Hp → VK → Prop := fun xs H Q => ∃ i j, xs = [.int i, .int j] ∧ Q (.int (if j < i then j else i)) H
def gMin2 : List D → (D → Prop) → Prop := fun ds q => ∃ i j : Int, ds = [.int i, .int j] ∧ q (.int (mnI i j))
theorem o_min2 : OpN K rMin2 gMin2 := by
  rintro F H xs ds q Q s r ⟨i, j, rfl, hq⟩ k
  obtain ⟨v, v', rfl, r1, r2⟩ := r.two
  exact ⟨i, j, by rw [r1.int_of, r2.int_of], k _ _ F H (.refl _ _ _) s (.int _) hq⟩
def wEnumL (wa : AW) : IW := fun τ q e => wa τ (fun ds τ' => ∃ es, (ds = [.lst es] ∨ ds = [.fl es]) ∧ q (es.mapIdx fun i d => .tup [.int i, d]) τ') e
theorem it_enum {F : Hp} {a : Addr} {xs : List V} {ds : List D} (h : SqL K F a xs) (r : Reps K F xs ds) : ItOk K F (Ite K a) (ds.mapIdx fun i d => .tup [.int i, d]) := by
  refine ⟨fun i F2 H s s2 hi => ?_, fun F2 H s s2 => ⟨xs, s2.seq (s.seq h), by rw [List.length_mapIdx, r.length]; exact Nat.le_refl _⟩, fun i F2 H x H' s s2 hi y => ?_⟩
  · rw [List.length_mapIdx, ← r.length] at hi
    exact ⟨xs, xs[i], s2.seq (s.seq h), List.getElem?_eq_getElem hi⟩
  · obtain ⟨T, x', rfl, hT, rfl, e⟩ := y
    obtain ⟨d, e1, e2⟩ := (r.mono s).get (e xs (s2.seq (s.seq h)))
    obtain ⟨x1, x2⟩ := new_ext (o := .tup [.int i, x']) s2 hT
    refine ⟨.tup [.int i, d], _, by rw [List.getElem?_mapIdx, e1]; rfl, x1, x2, .tup (.inl (.inl upd_same)) (.cons (.int _) (.cons (e2.mono (new_same s2 hT)) .nil))⟩
theorem di_enumL {t : TA} {w : AW} (h : DA K W t w) : DI K W (iEnum K t) (wEnumL w) := by
  refine ⟨fun σ H τ F R q e S hw k x => h.run σ H τ F _ _ e S hw (fun vs ds τ' F' H' t' r ⟨es, ed, hq⟩ => ?_) x⟩
  rcases ed with rfl | rfl
  · obtain ⟨v, rfl, r1⟩ := r.one
    cases r1 with
    | lst hs r2 => exact ⟨_, _, rfl, .inl (.inl (t'.ok.sub _ _ hs)), k _ _ τ' F' H' t' (it_enum (.inl (.inl hs)) r2) hq⟩
  · obtain ⟨v, rfl, r1⟩ := r.one
    cases r1 with
    | fl hs r2 => exact ⟨_, _, rfl, t'.ok.sub.seq hs, k _ _ τ' F' H' t' (it_enum hs r2) hq⟩
/-- x[k] += e, x an own list of ints -/
def wAugOwn (i : Nat) (wk we : EW) : SW := fun E τ => (∃ p es, τ[i]? = some (.own p (.lst es))) ∧ wk τ (fun k τ1 => ∃ p es n a, τ1[i]? = some (.own p (.lst es)) ∧ k = .int n ∧ 0 ≤ n ∧ es[n.toNat]? = some (.int a) ∧ we τ1 (fun d τ2 => ∃ es2 b, τ2[i]? = some (.own p (.lst es2)) ∧ es2.length = es.length ∧ d = .int b ∧ E.nx (τ2.set i (.own p (.lst (es2.set n.toNat (.int (a + b))))))) E.ex) E.ex
theorem ds_augOwn {i : Nat} {t u : TE} {w v : EW} (h : DE K W t w) (g : DE K W u v) : DS K W (tAugS (tVar i) t u rGetN (ipI fun a b => a + b) rSetL) (wAugOwn i w v) := by
  refine ⟨fun σ H τ F Dn E S ⟨⟨p, es, e0⟩, hw⟩ o => ?_⟩
  obtain ⟨s0, _, vs0, h0, _⟩ := own_lst S e0
  refine ⟨.ref p, s0, ?_⟩
  refine h.run σ H τ F _ _ E.ex S hw (fun y kd τ1 F1 H1 t1 r1 ⟨p', es', n, a, e1, ek, n0, ea, hq⟩ => ?_) o.xto
  subst ek
  obtain ⟨s1, _, vs1, h1, r2⟩ := own_lst t1.ok e1
  rw [s0] at s1
  cases s1
  obtain ⟨vv, ev, rv⟩ := r2.getD ea
  refine ⟨p, vs1, n, vv, rfl, r1.int_of, h1, n0, ev, ?_⟩
  refine g.run σ H1 τ1 F1 _ _ E.ex t1.ok hq (fun x d τ2 F2 H2 t2 r3 ⟨es2, b, e2, hl, ed, hn⟩ => ?_) (o.of t1).xto
  subst ed
  refine ⟨a, b, rv.int_of, r3.int_of, ?_⟩
  obtain ⟨s2, _, vs2, h2, r4⟩ := own_lst t2.ok e2
  rw [s0] at s2
  cases s2
  have hlt : n.toNat < es'.length := (List.getElem?_eq_some_iff.mp ea).1
  refine ⟨p, vs2, n, n.toNat, rfl, r1.int_of, h2, ?_, ?_⟩
  · have : n = ((n.toNat : Nat) : Int) := by omega
    rw [this]
    exact ixN_ltN (by rw [r4.length]; omega)
  · exact o.nx σ _ F2 _ (to_change (t1.trans t2) e2 (.lst (Reps.set (.int _) _ r4))) hn
/-- what is there and belongs to nobody becomes the frame's own -/
theorem To.takeOwn {F H F1 H1 : Hp} {σ : L2.St} {τ τ1 : List Cell} {i : Nat} {p : Addr} {vs : HO} {ds : Cont} (t : To K F H σ τ F1 H1 τ1) (hp0 : Fr H p) (nF : F1 p = none) (hH : H1 p = some vs) (nO : ¬ IsOwn τ1 p) (r : CRep K F1 vs ds) (fl : Flat ds := by trivial) :
    To K F H (σ.set i (some (.ref p))) τ F1 H1 (τ1.set i (.own p ds)) :=
  ⟨t.ext, grow_set t fun a f => by rw [flat_has fl f]; exact hp0, t.ok.setOwn (.flat fl nF hH r) fun a f => by rw [flat_has fl f]; exact nO⟩
def wLcOwn (i : Nat) (wI : IW) (wg : GW) (wt : TW) (we : EW) (vs : List Nat) : SW := fun E τ => wI τ (fun ds τ1 => ds.length ≤ 1000 ∧ ∃ inv : Nat → List D → List Cell → Prop, inv 0 [] (wipeD τ1 vs) ∧
  (∀ i d acc τ2, ds[i]? = some d → inv i acc τ2 → acc.length ≤ i → wg d τ2 fun τ3 => wt τ3 (fun b τ4 => (b = true → we τ4 (fun y τ5 => inv (i + 1) (acc ++ [y]) (wipeD τ5 vs)) noX) ∧ (b = false → inv (i + 1) acc (wipeD τ4 vs))) noX) ∧
  ∀ acc τ2, inv ds.length acc (wipeD τ2 vs) → acc.length ≤ ds.length → ∀ p, E.nx ((wipeD τ2 vs).set i (.own p (.lst acc)))) E.ex
theorem ds_lcOwn {i : Nat} {wi : TI} {g : TG} {tt : TT} {te : TE} {vs ws : List Nat} {wI : IW} {wg : GW} {wt : TW} {we : EW} (hi : DI K W wi wI) (hg : DG K ws g wg) (ht : DT K W0 tt wt) (he : DE K W0 te we) (hs : ∀ j ∈ ws, j ∈ vs) :
    DS K W (tAsg (tLc wi g tt te vs) (gName i)) (wLcOwn i wI wg wt we vs) := by
  refine ⟨fun σ H τ F Dn E S hw o => hi.run σ H τ F _ _ E.ex S hw (fun J ds τ1 F1 H1 t1 it ⟨hn, inv, h0, hst, hd⟩ Da hD => ?_) o.xto⟩
  refine lc_turns hg ht he hs t1.ok it hD hn h0 hst fun accV acc F2 H2 τ2 T fD nD hH ra la hinv => ?_
  have T1 : To K F H σ τ F2 H2 (wipeD τ2 vs) := by
    refine t1.trans (To.at (τ1 := wipeD τ2 vs) T ?_ fun p h => h)
    rw [← wipeD_idem]
    exact T.ok.wiped (by rw [wipe_length]) fun j hj => (wipe_ne hj).symm
  exact o.nx _ _ F2 _ (T1.takeOwn (t1.ext.there _ (fr_none hD)) fD hH nD (.lst ra)) (hd acc τ2 hinv la Da)
end
end L3

/-! ## == and != of instances with an own ==, with anything, either way round -/
namespace HN2
open PySem PySem.Spec PyProof.Rows PySem.SeqAt
section
variable {M : Model} {prog : Program} {w : World} {A : Around} {E : Value → Shared → Prop} {s : Shared} {K : PySem.W.Frag} {x C f : Addr} {ox : Obj} {od : Option Obj} {b : Value}
theorem try_eqK {Q : Option Value → Shared → Prop} (X : K.In s.heap) (I : PySem.W.InstAt s.heap x ox C od) (hs : PySem.W.findIn K (.ref C) "__eq__" = some (some (.ref f))) (hf : PySem.W.isFn K (.ref f) = true)
    (h : wpAny M A (call (.ref f) [.ref x, b]) (fun v s' => ∃ k, v = .bool k ∧ Q (some (.bool k)) s') E s) : wpAny M A (tryCompare (.ref x) "__eq__" b) Q E s := by
  unfold tryCompare
  refine wpAny_bind (PySem.W.ifBound_K X I hs hf (wpAny_mono h (fun v s' hv => ?_) fun _ _ e => e))
  obtain ⟨k, rfl, hq⟩ := hv
  exact wpAny_pure hq
theorem entry_neK {Q : Fin → Shared → Prop} (hu : A.units < cLine) (X : K.In s.heap) (I : PySem.W.InstAt s.heap x ox C od) (hs : PySem.W.findIn K (.ref C) "__eq__" = some (some (.ref f))) (hf : PySem.W.isFn K (.ref f) = true)
    (h : wpAny (model prog w) A (call (.ref f) [.ref x, b]) (fun v s' => ∃ k, v = .bool k ∧ Q (.done (.ret (.bool (!k)))) s') E s) : wpAny (model prog w) A (Builtin.«object.__ne__» ⟨[.ref x, b], []⟩) Q E s := by
  unfold Builtin.«object.__ne__»
  repeat (first
    | with_reducible refine wpAny_cRoomFor hu ?_
    | (refine wpAny_bind (m := callSpecialIfBound? (.ref x) (Str.ofString "__eq__") [b])
        (PySem.W.ifBound_K X I hs hf (wpAny_mono h (fun r s' hr => by
          obtain ⟨k, rfl, hq⟩ := hr
          repeat (first | exact hq | exact wpAny_pure hq | exact wpAny_truthy_bool hq | (refine wpAny_bind (m := truthy (.bool _)) (wpAny_truthy_bool ?_)) | wp_step)) fun _ _ e => e)))
    | wp_step)
theorem call_objNe {Q : Value → Shared → Prop} (hu : A.in1.units < cLine) (X : K.In s.heap) (I : PySem.W.InstAt s.heap x ox C od) (hm : PySem.W.mroIn K C (.type "object") = some true) (hs : PySem.W.findIn K (.ref C) "__eq__" = some (some (.ref f))) (hf : PySem.W.isFn K (.ref f) = true)
    (h : wpAny (model prog w) A.in1 (call (.ref f) [.ref x, b]) (fun v s' => ∃ k, v = .bool k ∧ Q (.bool (!k)) s') E s) : wpAny (model prog w) A (call (.builtin "object.__ne__") [.ref x, b]) Q E s :=
  wpAny_call (codeAny_call_builtin F.cmp_object.ne.plain F.cmpEntry_ne (PySem.W.check_slot F.cmpKind_ne F.cmpSplit_ne (I.type.andThen (PySem.W.looks_mroIn X hm)) (F.cmpArgs_ne _ _) (entry_neK hu X I hs hf h)))
theorem ifBound_objNe {args : List Value} {Q : Option Value → Shared → Prop} (X : K.In s.heap) (I : PySem.W.InstAt s.heap x ox C od) (hs : PySem.W.findIn K (.ref C) "__ne__" = some (some (.builtin "object.__ne__")))
    (h : wpAny M A (call (.builtin "object.__ne__") (.ref x :: args)) (fun v => Q (some v)) E s) : wpAny M A (callSpecialIfBound? (.ref x) "__ne__" args) Q E s := by
  simp only [callSpecialIfBound?, bindSpecialIfBound?]
  refine wpAny_holding (wpAny_bind (wpAny_bind (wpAny_bind (I.type.here ((PySem.W.looks_findIn X hs).here ?_)))))
  refine wpAny_bind (wpAny_askSetting (wpAny_ite ?_))
  have fin : wpAny M A (call (.builtin "object.__ne__") ([.ref x] ++ args) >>= fun v => pure (some v)) Q E s := wpAny_bind (wpAny_mono h (fun v s' h' => wpAny_pure h') fun _ _ h' => h')
  split
  · exact wpAny_bind (wpAny_of_eq (F.cmp_object.ne.bind _) (wpAny_pure (by exact fin)))
  · exact wpAny_tryCatch (wpAny_bind (wpAny_of_eq (F.cmp_object.ne.bind _) (wpAny_pure (by exact fin))))
theorem try_neK {Q : Option Value → Shared → Prop} (hu : A.in1.units < cLine) (X : K.In s.heap) (I : PySem.W.InstAt s.heap x ox C od) (hm : PySem.W.mroIn K C (.type "object") = some true) (hn : PySem.W.findIn K (.ref C) "__ne__" = some (some (.builtin "object.__ne__")))
    (hs : PySem.W.findIn K (.ref C) "__eq__" = some (some (.ref f))) (hf : PySem.W.isFn K (.ref f) = true)
    (h : wpAny (model prog w) A.in1 (call (.ref f) [.ref x, b]) (fun v s' => ∃ k, v = .bool k ∧ Q (some (.bool (!k))) s') E s) : wpAny (model prog w) A (tryCompare (.ref x) "__ne__" b) Q E s := by
  unfold tryCompare
  refine wpAny_bind (ifBound_objNe X I hn (call_objNe hu X I hm hs hf (wpAny_mono h (fun v s' hv => ?_) fun _ _ e => e)))
  obtain ⟨k, rfl, hq⟩ := hv
  exact ⟨k, rfl, wpAny_pure hq⟩
/-- an instance on the left, what is compared first -/
theorem rc_left {op : CmpOp} {tb : Value} {Q : Value → Shared → Prop} (hu : A.units < cLine) (X : K.In s.heap) (I : PySem.W.InstAt s.heap x ox C od) (hb : PySem.W.Looks (model prog w) s.heap (typeOf b) tb) (hn : PySem.W.notFirst K C tb = true)
    (one : wpAny (model prog w) A (tryCompare (.ref x) (cmpInfo op).2.1 b) (fun r s' => ∃ v, r = some v ∧ Q v s') E s) : wpAny (model prog w) A (richCompare op (.ref x) b) Q E s := by
  unfold richCompare
  simp only [oneThing_ref]
  refine wpAny_holding (wpAny_bind (wpAny_cRoomFor hu ?_))
  refine wpAny_bind (I.type.here (wpAny_bind (hb.here ?_)))
  split
  · rename_i q
    have e : PySem.W.subIn K tb (.ref C) = some false := by
      rcases Bool.or_eq_true_iff.mp hn with e | e
      · rw [beq_iff_eq.mp e] at q; simp at q
      · exact beq_iff_eq.mp e
    refine wpAny_bind ((PySem.W.looks_subIn X e).here ?_)
    simp only [Bool.false_eq_true, if_false]
    refine wpAny_bind (wpAny_mono one (fun r s' z => ?_) fun _ _ e => e)
    obtain ⟨v, rfl, hq⟩ := z
    exact wpAny_pure hq
  · refine wpAny_bind (wpAny_pure ?_)
    simp only [Bool.false_eq_true, if_false]
    refine wpAny_bind (wpAny_mono one (fun r s' z => ?_) fun _ _ e => e)
    obtain ⟨v, rfl, hq⟩ := z
    exact wpAny_pure hq
/-- an instance on the right: the left one, of a built-in kind, declines, and the right one is asked -/
theorem rc_right {op : CmpOp} {T : String} {Q : Value → Shared → Prop} (hu : A.units < cLine) (X : K.In s.heap) (I : PySem.W.InstAt s.heap x ox C od) (hT : s.TypeIs b T) (hn : PySem.W.subIn K (.ref C) (.type T) = some false)
    (h1 : oneThing? op b (.ref x) = none)
    (dec : wpAny (model prog w) A (tryCompare b (cmpInfo op).2.1 (.ref x)) (fun r s' => r = none ∧ s' = s) E s)
    (one : wpAny (model prog w) A (tryCompare (.ref x) (cmpInfo op).2.2 b) (fun r s' => ∃ v, r = some v ∧ Q v s') E s) : wpAny (model prog w) A (richCompare op b (.ref x)) Q E s := by
  unfold richCompare
  simp only [h1]
  refine wpAny_holding (wpAny_bind (wpAny_cRoomFor hu ?_))
  refine wpAny_bind (wpAny_typeOf hT (wpAny_bind (I.type.here ?_)))
  split
  · refine wpAny_bind ((PySem.W.looks_subIn X hn).here ?_)
    simp only [Bool.false_eq_true, if_false, Bool.not_false, if_true]
    refine wpAny_bind (wpAny_mono dec (fun r s1 z => ?_) fun _ _ e => e)
    obtain ⟨z1, z2⟩ := z
    subst z1
    subst z2
    refine wpAny_bind (wpAny_mono one (fun r s' z => ?_) fun _ _ e => e)
    obtain ⟨v, rfl, hq⟩ := z
    exact wpAny_pure hq
  · rename_i q
    exact absurd (by simp) q
end
end HN2
namespace HN2
open PySem PySem.Spec PyProof.Rows PySem.SeqAt
section
variable {M : Model} {prog : Program} {w : World} {A : Around} {E : Value → Shared → Prop} {s : Shared} {K : PySem.W.Frag} {x C dx : Addr} {od : Option Obj}
theorem dec_tuple_eq {Q : Fin → Shared → Prop} {t : Addr} (X : K.In s.heap) (I : PySem.W.InstAt s.heap x (PySem.W.instObj C dx) C od) (hn : PySem.W.subIn K (.ref C) (.type "tuple") = some false) (hq : Q (.done (.ret .notImplemented)) s) :
    wpAny M A (Builtin.«tuple.__eq__» ⟨[.ref t, .ref x], []⟩) Q E s := by
  have L0 := I.type (M := M)
  have L1 := PySem.W.looks_subIn (M := M) X hn
  obtain ⟨hh, g, dr, tk, os⟩ := s
  unfold Builtin.«tuple.__eq__»
  repeat lk
  exact hq
theorem dec_list_eq {Q : Fin → Shared → Prop} {t : Addr} (X : K.In s.heap) (I : PySem.W.InstAt s.heap x (PySem.W.instObj C dx) C od) (hn : PySem.W.subIn K (.ref C) (.type "list") = some false) (hq : Q (.done (.ret .notImplemented)) s) :
    wpAny M A (Builtin.«list.__eq__» ⟨[.ref t, .ref x], []⟩) Q E s := by
  have L0 := I.type (M := M)
  have L1 := PySem.W.looks_subIn (M := M) X hn
  obtain ⟨hh, g, dr, tk, os⟩ := s
  unfold Builtin.«list.__eq__»
  repeat lk
  exact hq
theorem dec_dict_eq {Q : Fin → Shared → Prop} {t : Addr} (X : K.In s.heap) (I : PySem.W.InstAt s.heap x (PySem.W.instObj C dx) C od) (hn : PySem.W.subIn K (.ref C) (.type "dict") = some false) (hq : Q (.done (.ret .notImplemented)) s) :
    wpAny M A (Builtin.«dict.__eq__» ⟨[.ref t, .ref x], []⟩) Q E s := by
  have L0 := I.type (M := M)
  have L1 := PySem.W.looks_subIn (M := M) X hn
  obtain ⟨hh, g, dr, tk, os⟩ := s
  unfold Builtin.«dict.__eq__»
  repeat lk
  exact hq
theorem dec_int_eq {Q : Fin → Shared → Prop} {a : Int} {t : Tok} (I : PySem.W.InstAt s.heap x (PySem.W.instObj C dx) C od) (hq : Q (.done (.ret .notImplemented)) s) :
    wpAny M A (Builtin.«int.__eq__» ⟨[.int a t, .ref x], []⟩) Q E s := by
  have L2 := I.at_
  obtain ⟨hh, g, dr, tk, os⟩ := s
  change hh.get? x = some _ at L2
  unfold Builtin.«int.__eq__»
  repeat lk
  exact hq
theorem dec_bool_eq {Q : Fin → Shared → Prop} {a : Bool} (I : PySem.W.InstAt s.heap x (PySem.W.instObj C dx) C od) (hq : Q (.done (.ret .notImplemented)) s) :
    wpAny M A (Builtin.«int.__eq__» ⟨[.bool a, .ref x], []⟩) Q E s := by
  have L2 := I.at_
  obtain ⟨hh, g, dr, tk, os⟩ := s
  change hh.get? x = some _ at L2
  unfold Builtin.«int.__eq__»
  repeat lk
  exact hq
theorem dec_str_eq {Q : Fin → Shared → Prop} {a : Str} {t : Tok} (I : PySem.W.InstAt s.heap x (PySem.W.instObj C dx) C od) (hq : Q (.done (.ret .notImplemented)) s) :
    wpAny M A (Builtin.«str.__eq__» ⟨[.str a t, .ref x], []⟩) Q E s := by
  have L2 := I.at_
  obtain ⟨hh, g, dr, tk, os⟩ := s
  change hh.get? x = some _ at L2
  unfold Builtin.«str.__eq__»
  repeat lk
  exact hq
theorem dec_tuple_ne {Q : Fin → Shared → Prop} {t : Addr} (X : K.In s.heap) (I : PySem.W.InstAt s.heap x (PySem.W.instObj C dx) C od) (hn : PySem.W.subIn K (.ref C) (.type "tuple") = some false) (hq : Q (.done (.ret .notImplemented)) s) :
    wpAny M A (Builtin.«tuple.__ne__» ⟨[.ref t, .ref x], []⟩) Q E s := by
  have L0 := I.type (M := M)
  have L1 := PySem.W.looks_subIn (M := M) X hn
  obtain ⟨hh, g, dr, tk, os⟩ := s
  unfold Builtin.«tuple.__ne__»
  repeat lk
  exact hq
theorem dec_list_ne {Q : Fin → Shared → Prop} {t : Addr} (X : K.In s.heap) (I : PySem.W.InstAt s.heap x (PySem.W.instObj C dx) C od) (hn : PySem.W.subIn K (.ref C) (.type "list") = some false) (hq : Q (.done (.ret .notImplemented)) s) :
    wpAny M A (Builtin.«list.__ne__» ⟨[.ref t, .ref x], []⟩) Q E s := by
  have L0 := I.type (M := M)
  have L1 := PySem.W.looks_subIn (M := M) X hn
  obtain ⟨hh, g, dr, tk, os⟩ := s
  unfold Builtin.«list.__ne__»
  repeat lk
  exact hq
theorem dec_dict_ne {Q : Fin → Shared → Prop} {t : Addr} (X : K.In s.heap) (I : PySem.W.InstAt s.heap x (PySem.W.instObj C dx) C od) (hn : PySem.W.subIn K (.ref C) (.type "dict") = some false) (hq : Q (.done (.ret .notImplemented)) s) :
    wpAny M A (Builtin.«dict.__ne__» ⟨[.ref t, .ref x], []⟩) Q E s := by
  have L0 := I.type (M := M)
  have L1 := PySem.W.looks_subIn (M := M) X hn
  obtain ⟨hh, g, dr, tk, os⟩ := s
  unfold Builtin.«dict.__ne__»
  repeat lk
  exact hq
theorem dec_int_ne {Q : Fin → Shared → Prop} {a : Int} {t : Tok} (I : PySem.W.InstAt s.heap x (PySem.W.instObj C dx) C od) (hq : Q (.done (.ret .notImplemented)) s) :
    wpAny M A (Builtin.«int.__ne__» ⟨[.int a t, .ref x], []⟩) Q E s := by
  have L2 := I.at_
  obtain ⟨hh, g, dr, tk, os⟩ := s
  change hh.get? x = some _ at L2
  unfold Builtin.«int.__ne__»
  repeat lk
  exact hq
theorem dec_bool_ne {Q : Fin → Shared → Prop} {a : Bool} (I : PySem.W.InstAt s.heap x (PySem.W.instObj C dx) C od) (hq : Q (.done (.ret .notImplemented)) s) :
    wpAny M A (Builtin.«int.__ne__» ⟨[.bool a, .ref x], []⟩) Q E s := by
  have L2 := I.at_
  obtain ⟨hh, g, dr, tk, os⟩ := s
  change hh.get? x = some _ at L2
  unfold Builtin.«int.__ne__»
  repeat lk
  exact hq
theorem dec_str_ne {Q : Fin → Shared → Prop} {a : Str} {t : Tok} (I : PySem.W.InstAt s.heap x (PySem.W.instObj C dx) C od) (hq : Q (.done (.ret .notImplemented)) s) :
    wpAny M A (Builtin.«str.__ne__» ⟨[.str a t, .ref x], []⟩) Q E s := by
  have L2 := I.at_
  obtain ⟨hh, g, dr, tk, os⟩ := s
  change hh.get? x = some _ at L2
  unfold Builtin.«str.__ne__»
  repeat lk
  exact hq
end
end HN2
namespace HN2
open PySem PySem.Spec PyProof.Rows PySem.SeqAt
section
variable {prog : Program} {w : World} {A : Around} {E : Value → Shared → Prop} {s : Shared} {K : PySem.W.Frag} {x C dx : Addr} {od : Option Obj}
/-- the left one declines -/
def Dec (prog : Program) (w : World) (A : Around) (op : CmpOp) (b : Value) (x : Addr) (s : Shared) : Prop := ∀ E : Value → Shared → Prop, wpAny (model prog w) A (tryCompare b (cmpInfo op).2.1 (.ref x)) (fun r s' => r = none ∧ s' = s) E s
theorem try_tuple_eq {t : Addr} (hT : s.TypeIs (.ref t) "tuple") (X : K.In s.heap) (I : PySem.W.InstAt s.heap x (PySem.W.instObj C dx) C od) (hn : PySem.W.subIn K (.ref C) (.type "tuple") = some false) : Dec prog w A .Eq (.ref t) x s := fun E =>
  wpAny_tryCompare_declines hT F.slot_tuple_eq (GQ.call_here F.slot_tuple_eq hT F.entry_tuple_eq (F.args_tuple_eq_2 _ _) (dec_tuple_eq X I hn ⟨rfl, rfl, rfl⟩))
theorem try_list_eq {t : Addr} (hT : s.TypeIs (.ref t) "list") (X : K.In s.heap) (I : PySem.W.InstAt s.heap x (PySem.W.instObj C dx) C od) (hn : PySem.W.subIn K (.ref C) (.type "list") = some false) : Dec prog w A .Eq (.ref t) x s := fun E =>
  wpAny_tryCompare_declines hT F.slot_list_eq (GQ.call_here F.slot_list_eq hT F.entry_list_eq (F.args_list_eq_2 _ _) (dec_list_eq X I hn ⟨rfl, rfl, rfl⟩))
theorem try_dict_eq {t : Addr} (hT : s.TypeIs (.ref t) "dict") (X : K.In s.heap) (I : PySem.W.InstAt s.heap x (PySem.W.instObj C dx) C od) (hn : PySem.W.subIn K (.ref C) (.type "dict") = some false) : Dec prog w A .Eq (.ref t) x s := fun E =>
  wpAny_tryCompare_declines hT F.slot_dict_eq (GQ.call_here F.slot_dict_eq hT F.entry_dict_eq (F.args_dict_eq_2 _ _) (dec_dict_eq X I hn ⟨rfl, rfl, rfl⟩))
theorem try_int_eq {a : Int} {t : Tok} (I : PySem.W.InstAt s.heap x (PySem.W.instObj C dx) C od) : Dec prog w A .Eq (.int a t) x s := fun E =>
  wpAny_tryCompare_declines (show s.TypeIs (.int a t) "int" from rfl) F.slot_int_eq (GQ.call_here F.slot_int_eq (show s.TypeIs (.int a t) "int" from rfl) F.entry_int_eq (F.args_int_eq_2 _ _) (dec_int_eq I ⟨rfl, rfl, rfl⟩))
theorem try_bool_eq {a : Bool} (I : PySem.W.InstAt s.heap x (PySem.W.instObj C dx) C od) : Dec prog w A .Eq (.bool a) x s := fun E =>
  wpAny_tryCompare_declines (show s.TypeIs (.bool a) "bool" from rfl) F.slot_bool_eq (GQ.call_here F.slot_bool_eq (show s.TypeIs (.bool a) "bool" from rfl) F.entry_int_eq (F.args_int_eq_2 _ _) (dec_bool_eq I ⟨rfl, rfl, rfl⟩))
theorem try_str_eq {a : Str} {t : Tok} (I : PySem.W.InstAt s.heap x (PySem.W.instObj C dx) C od) : Dec prog w A .Eq (.str a t) x s := fun E =>
  wpAny_tryCompare_declines (show s.TypeIs (.str a t) "str" from rfl) F.slot_str_eq (GQ.call_here F.slot_str_eq (show s.TypeIs (.str a t) "str" from rfl) F.entry_str_eq (F.args_str_eq_2 _ _) (dec_str_eq I ⟨rfl, rfl, rfl⟩))
theorem try_none_eq : Dec prog w A .Eq .none x s := fun E =>
  wpAny_tryCompare_declines (show s.TypeIs .none "NoneType" from rfl) F.slot_NoneType_eq (call_gives F.slot_NoneType_eq rfl F.entry_NoneType_eq (F.args_NoneType_eq_2 _ _) (NoneType___eq___none_ref_0 x) ⟨rfl, rfl, rfl⟩)
theorem try_tuple_ne {t : Addr} (hT : s.TypeIs (.ref t) "tuple") (X : K.In s.heap) (I : PySem.W.InstAt s.heap x (PySem.W.instObj C dx) C od) (hn : PySem.W.subIn K (.ref C) (.type "tuple") = some false) : Dec prog w A .NotEq (.ref t) x s := fun E =>
  wpAny_tryCompare_declines hT F.slot_tuple_ne (GQ.call_here F.slot_tuple_ne hT F.entry_tuple_ne (F.args_tuple_ne_2 _ _) (dec_tuple_ne X I hn ⟨rfl, rfl, rfl⟩))
theorem try_list_ne {t : Addr} (hT : s.TypeIs (.ref t) "list") (X : K.In s.heap) (I : PySem.W.InstAt s.heap x (PySem.W.instObj C dx) C od) (hn : PySem.W.subIn K (.ref C) (.type "list") = some false) : Dec prog w A .NotEq (.ref t) x s := fun E =>
  wpAny_tryCompare_declines hT F.slot_list_ne (GQ.call_here F.slot_list_ne hT F.entry_list_ne (F.args_list_ne_2 _ _) (dec_list_ne X I hn ⟨rfl, rfl, rfl⟩))
theorem try_dict_ne {t : Addr} (hT : s.TypeIs (.ref t) "dict") (X : K.In s.heap) (I : PySem.W.InstAt s.heap x (PySem.W.instObj C dx) C od) (hn : PySem.W.subIn K (.ref C) (.type "dict") = some false) : Dec prog w A .NotEq (.ref t) x s := fun E =>
  wpAny_tryCompare_declines hT F.slot_dict_ne (GQ.call_here F.slot_dict_ne hT F.entry_dict_ne (F.args_dict_ne_2 _ _) (dec_dict_ne X I hn ⟨rfl, rfl, rfl⟩))
theorem try_int_ne {a : Int} {t : Tok} (I : PySem.W.InstAt s.heap x (PySem.W.instObj C dx) C od) : Dec prog w A .NotEq (.int a t) x s := fun E =>
  wpAny_tryCompare_declines (show s.TypeIs (.int a t) "int" from rfl) F.slot_int_ne (GQ.call_here F.slot_int_ne (show s.TypeIs (.int a t) "int" from rfl) F.entry_int_ne (F.args_int_ne_2 _ _) (dec_int_ne I ⟨rfl, rfl, rfl⟩))
theorem try_bool_ne {a : Bool} (I : PySem.W.InstAt s.heap x (PySem.W.instObj C dx) C od) : Dec prog w A .NotEq (.bool a) x s := fun E =>
  wpAny_tryCompare_declines (show s.TypeIs (.bool a) "bool" from rfl) F.slot_bool_ne (GQ.call_here F.slot_bool_ne (show s.TypeIs (.bool a) "bool" from rfl) F.entry_int_ne (F.args_int_ne_2 _ _) (dec_bool_ne I ⟨rfl, rfl, rfl⟩))
theorem try_str_ne {a : Str} {t : Tok} (I : PySem.W.InstAt s.heap x (PySem.W.instObj C dx) C od) : Dec prog w A .NotEq (.str a t) x s := fun E =>
  wpAny_tryCompare_declines (show s.TypeIs (.str a t) "str" from rfl) F.slot_str_ne (GQ.call_here F.slot_str_ne (show s.TypeIs (.str a t) "str" from rfl) F.entry_str_ne (F.args_str_ne_2 _ _) (dec_str_ne I ⟨rfl, rfl, rfl⟩))
theorem try_none_ne : Dec prog w A .NotEq .none x s := fun E =>
  wpAny_tryCompare_declines (show s.TypeIs .none "NoneType" from rfl) F.slot_NoneType_ne (call_gives F.slot_NoneType_ne rfl F.entry_NoneType_ne (F.args_NoneType_ne_2 _ _) (NoneType___ne___none_ref_0 x) ⟨rfl, rfl, rfl⟩)
end
end HN2
namespace L2
open PySem PySem.Spec PyProof.Rows
/-- a thing that is no instance: its kind -/
inductive KindV (K : PySem.W.Frag) (H : Hp) : V → String → Prop where
  | non : KindV K H .non "NoneType"
  | bl (x : Bool) : KindV K H (.bl x) "bool"
  | int (i : Int) : KindV K H (.int i) "int"
  | str (x : Str) : KindV K H (.str x) "str"
  | tup {a : Addr} {xs : List V} (e : SqT K H a xs) : KindV K H (.ref a) "tuple"
  | lst {a : Addr} {xs : List V} (e : SqL K H a xs) : KindV K H (.ref a) "list"
  | dct {a : Addr} (e : TyX K H (.ref a) (.type "dict")) : KindV K H (.ref a) "dict"
section
variable {X : Cx} {pins : List (Addr × Obj)} {σ : St} {H : Hp} {s : Shared} {x : V} {u : Value} {T : String}
theorem kind_ty (I : Inv X pins σ H s) (r : RelV x u) (h : KindV X.K H x T) : s.TypeIs u T := by
  cases h with
  | non => cases (show u = Value.none from r); rfl
  | bl b => cases (show u = Value.bool b from r); rfl
  | int i => obtain ⟨t, e⟩ := (show ∃ t, u = Value.int i t from r); cases e; rfl
  | str b => obtain ⟨t, e⟩ := (show ∃ t, u = Value.str b t from r); cases e; rfl
  | tup e =>
    cases (show u = Value.ref _ from r)
    obtain ⟨its, _, ⟨o, e1, e2, _⟩, _⟩ := I.tuple e
    exact ⟨o, e1, e2⟩
  | lst e =>
    cases (show u = Value.ref _ from r)
    obtain ⟨its, _, p, _⟩ := I.list e
    obtain ⟨o, n, e1, e2, _⟩ := p
    exact ⟨o, e1, e2⟩
  | @dct a e =>
    cases (show u = Value.ref a from r)
    have key : ∀ (v : V) (t : Value), TyX X.K H v t → v = .ref a → t = .type "dict" → s.TypeIs (.ref a) "dict" := by
      intro v t ht e1 e2
      cases ht with
      | base b =>
        cases b with
        | @dK b kvs e =>
          cases e1
          obtain ⟨_, _, vs, _, o, es, ep, h1, h2, _⟩ := (show ObjOk X.prog X.w H s.heap a (.dK kvs) from I.hok a _ e)
          exact ⟨o, h1, h2.1⟩
        | @dT b kvs e =>
          cases e1
          obtain ⟨_, _, xs, _, o, es, ep, h1, h2, _⟩ := (show ObjOk X.prog X.w H s.heap a (.dT kvs) from I.hok a _ e)
          exact ⟨o, h1, h2.1⟩
        | _ => first | (cases e1; done) | (simp at e2)
      | kDict e c =>
        cases e1
        exact ⟨_, I.kIn a _ e, c⟩
      | @fDict b o kvs e =>
        cases e1
        obtain ⟨_, _, _, vs, _, o', es, ep, h1, h2, _⟩ := (show ObjOk X.prog X.w H s.heap a (.frz o (.dK kvs)) from I.hok a _ e)
        exact ⟨o', h1, h2.1⟩
      | _ => first | (cases e1; done) | (simp at e2)
    exact key _ _ e rfl rfl
theorem looks_kind {M : Model} (h : s.TypeIs u T) : PySem.W.Looks M s.heap (typeOf u) (.type T) := by
  intro A Q E s' k q
  cases u with
  | ref a =>
    obtain ⟨o, e, c⟩ := h
    exact wpAny_typeOf (show s'.TypeIs (.ref a) T from ⟨o, k _ _ e, c⟩) q
  | _ => exact wpAny_typeOf (s := s') (by exact h) q
theorem one_none {op : CmpOp} {a : Addr} (r : RelV x u) (h : KindV X.K H x T) : oneThing? op u (.ref a) = none := by
  cases h with
  | non => cases (show u = Value.none from r); rfl
  | bl b => cases (show u = Value.bool b from r); rfl
  | int i => obtain ⟨t, e⟩ := (show ∃ t, u = Value.int i t from r); cases e; rfl
  | str b => obtain ⟨t, e⟩ := (show ∃ t, u = Value.str b t from r); cases e; rfl
  | tup e => cases (show u = Value.ref _ from r); rfl
  | lst e => cases (show u = Value.ref _ from r); rfl
  | dct e => cases (show u = Value.ref _ from r); rfl
theorem kind_dec {A : Around} {x' C dx : Addr} {od : Option Obj} {neg : Bool} (I : Inv X pins σ H s) (r : RelV x u) (h : KindV X.K H x T) (J : PySem.W.InstAt s.heap x' (PySem.W.instObj C dx) C od) (hn : PySem.W.subIn X.K (.ref C) (.type T) = some false) :
    HN2.Dec X.prog X.w A (if neg then .NotEq else .Eq) u x' s := by
  have ty := kind_ty I r h
  cases neg with
  | true =>
    show HN2.Dec X.prog X.w A .NotEq u x' s
    cases h with
    | non => cases (show u = Value.none from r); exact HN2.try_none_ne
    | bl b => cases (show u = Value.bool b from r); exact HN2.try_bool_ne J
    | int i => obtain ⟨t, e⟩ := (show ∃ t, u = Value.int i t from r); cases e; exact HN2.try_int_ne J
    | str b => obtain ⟨t, e⟩ := (show ∃ t, u = Value.str b t from r); cases e; exact HN2.try_str_ne J
    | tup e => cases (show u = Value.ref _ from r); exact HN2.try_tuple_ne ty I.kIn J hn
    | lst e => cases (show u = Value.ref _ from r); exact HN2.try_list_ne ty I.kIn J hn
    | dct e => cases (show u = Value.ref _ from r); exact HN2.try_dict_ne ty I.kIn J hn
  | false =>
    show HN2.Dec X.prog X.w A .Eq u x' s
    cases h with
    | non => cases (show u = Value.none from r); exact HN2.try_none_eq
    | bl b => cases (show u = Value.bool b from r); exact HN2.try_bool_eq J
    | int i => obtain ⟨t, e⟩ := (show ∃ t, u = Value.int i t from r); cases e; exact HN2.try_int_eq J
    | str b => obtain ⟨t, e⟩ := (show ∃ t, u = Value.str b t from r); cases e; exact HN2.try_str_eq J
    | tup e => cases (show u = Value.ref _ from r); exact HN2.try_tuple_eq ty I.kIn J hn
    | lst e => cases (show u = Value.ref _ from r); exact HN2.try_list_eq ty I.kIn J hn
    | dct e => cases (show u = Value.ref _ from r); exact HN2.try_dict_eq ty I.kIn J hn
end
/-- what a class with an own == and no other != must have -/
structure OwnCmp (K : PySem.W.Frag) (C g : Addr) : Prop where
  eq : PySem.W.findIn K (.ref C) "__eq__" = some (some (.ref g))
  ne : PySem.W.findIn K (.ref C) "__ne__" = some (some (.builtin "object.__ne__"))
  fn : PySem.W.isFn K (.ref g) = true
  top : PySem.W.mroIn K C (.type "object") = some true
/-- == (or !=) of an instance of the class at C with anything, either way round -/
def rCmpO (K : PySem.W.Frag) (C : Addr) (sp : Sp) (E : XK) (neg : Bool) : R2 := fun x y H Q => ∃ a dx fs, H a = some (.ins C dx fs) ∧
  ((x = .ref a ∧ ((∃ T, KindV K H y T ∧ PySem.W.notFirst K C (.type T) = true) ∨ (∃ b C' dy gs, y = .ref b ∧ H b = some (.ins C' dy gs) ∧ PySem.W.notFirst K C (.ref C') = true)) ∧
      sp [x, y] H (fun z H' => ∃ k, z = .bl k ∧ Q (.bl (if neg then !k else k)) H') E) ∨
    (y = .ref a ∧ (∃ T, KindV K H x T ∧ PySem.W.subIn K (.ref C) (.type T) = some false) ∧ sp [y, x] H (fun z H' => ∃ k, z = .bl k ∧ Q (.bl (if neg then !k else k)) H') E))
section
variable {X : Cx} {CX : CXT} {C g : Addr} {n : Nat} {sp : Sp} {E : XK}
theorem ifO (neg : Bool) : (cmpInfo (if neg then CmpOp.NotEq else .Eq)).2.1 = (if neg then Str.ofString "__ne__" else Str.ofString "__eq__") := by cases neg <;> rfl
theorem ifO2 (neg : Bool) : (cmpInfo (if neg then CmpOp.NotEq else .Eq)).2.2 = (if neg then Str.ofString "__ne__" else Str.ofString "__eq__") := by cases neg <;> rfl
theorem try_own {pins : List (Addr × Obj)} {s : Shared} {σ : St} {H : Hp} {a dx : Addr} {od : Option Obj} {y : V} {u : Value} {neg : Bool} {Q : VK} (c : OwnCmp X.K C g) (F : FnR X.prog X.w X.K X.mg X.base CX n g sp) (hr : Room (n + 1) X.A) (hx : Passes CX X E)
    (I : Inv X pins σ H s) (J : PySem.W.InstAt s.heap a (PySem.W.instObj C dx) C od) (ry : RelV y u) (q : sp [.ref a, y] H (fun z H' => ∃ k, z = .bl k ∧ Q (.bl (if neg then !k else k)) H') E) :
    wpAny (model X.prog X.w) X.A (tryCompare (.ref a) (if neg then Str.ofString "__ne__" else Str.ofString "__eq__") u) (fun r s' => ∃ v, r = some v ∧ EP X pins σ Q v s') X.xe s := by
  have back : ∀ (v : Value) (s' : Shared), EP X pins σ (fun z H' => ∃ k, z = .bl k ∧ Q (.bl (if neg then !k else k)) H') v s' → ∃ k, v = .bool k ∧ EP X pins σ Q (.bool (if neg then !k else k)) s' := fun v s' h => by
    obtain ⟨z, H', I', rz, k, e, q⟩ := h
    subst e
    cases (show v = Value.bool k from rz)
    exact ⟨k, rfl, V.bl (if neg then !k else k), H', I', (show Value.bool _ = Value.bool _ from rfl), q⟩
  cases neg with
  | false =>
    refine HN2.try_eqK I.kIn J c.eq c.fn (wpAny_mono (wpAny_call (run_fnR (us := [.ref a, u]) (vs := [.ref a, y]) F (hr.mono (by omega)) hx I (.cons rfl (.cons ry .nil)) q)) (fun v s' h => ?_) fun _ _ e => e)
    obtain ⟨k, ek, h2⟩ := back v s' h
    subst ek
    exact ⟨k, rfl, _, rfl, h2⟩
  | true =>
    refine HN2.try_neK hr.in1.units0 I.kIn J c.top c.ne c.eq c.fn (wpAny_mono (wpAny_call (SlX.run_at (us := [.ref a, u]) (ws := [.ref a, y]) F hr.in1 I.env0.in1 hx I (.cons rfl (.cons ry .nil)) q)) (fun v s' h => ?_) fun _ _ e => e)
    obtain ⟨k, ek, h2⟩ := back v s' h
    subst ek
    exact ⟨k, rfl, _, rfl, h2⟩
theorem op_cmpO {neg : Bool} (c : OwnCmp X.K C g) (F : FnR X.prog X.w X.K X.mg X.base CX n g sp) (hr : Room (n + 1) X.A) (hx : Passes CX X E) : OpR X (compareOp (if neg then .NotEq else .Eq)) (rCmpO X.K C sp E neg) := by
  intro pins s σ H x y v u Q I rx ry h
  obtain ⟨a, dx, fs, ha, h⟩ := h
  obtain ⟨mA, J0, _⟩ := ins_get I.hok ha
  obtain ⟨od, J, _⟩ := J0.look
  have hop : compareOp (if neg then .NotEq else .Eq) v u = richCompare (if neg then .NotEq else .Eq) v u := by cases neg <;> rfl
  rw [hop]
  rcases h with ⟨rfl, hy, q⟩ | ⟨rfl, ⟨T, hk, hn⟩, q⟩
  · cases (show v = Value.ref a from rx)
    rcases hy with ⟨T, hk, hn⟩ | ⟨b, C', dy, gs, rfl, hb, hn⟩
    · refine HN2.rc_left hr.units0 I.kIn J (looks_kind (kind_ty I ry hk)) hn ?_
      rw [ifO]
      exact try_own c F hr hx I J ry q
    · cases (show u = Value.ref b from ry)
      obtain ⟨mB, J1, _⟩ := ins_get I.hok hb
      obtain ⟨od', J', _⟩ := J1.look
      refine HN2.rc_left hr.units0 I.kIn J J'.type hn ?_
      rw [ifO]
      exact try_own c F hr hx I J (show RelV (.ref b) (Value.ref b) from rfl) q
  · cases (show u = Value.ref a from ry)
    refine HN2.rc_right hr.units0 I.kIn J (kind_ty I rx hk) hn (one_none rx hk) (kind_dec I rx hk J hn _) ?_
    rw [ifO2]
    exact try_own c F hr hx I J rx q
end
end L2
namespace L3
open PySem PySem.Spec PyProof.Rows L2
variable [TB : TabT]
variable {K : PySem.W.Frag} {W : WX}
def kindNames : List String := ["NoneType", "bool", "int", "str", "tuple", "list", "dict"]
theorem sub_bi {T : String} {C : Addr} (h : T ∈ kindNames) : PySem.W.subIn K (.type T) (.ref C) = some false := by
  have key : ∀ (T : String) (l : List Value), fastBuiltinMro T = some l → (∀ v ∈ l, ∀ a, v ≠ .ref a) → PySem.W.subIn K (.type T) (.ref C) = some false := fun T l e hl => by
    show (fastBuiltinMro T).map (·.contains (.ref C)) = some false
    rw [e]
    have : l.contains (.ref C) = false := by
      rw [← Bool.not_eq_true, List.contains_iff_mem]
      exact fun m => hl _ m C rfl
    show some (l.contains (.ref C)) = some false
    rw [this]
  simp only [kindNames, List.mem_cons, List.not_mem_nil, or_false] at h
  rcases h with rfl | rfl | rfl | rfl | rfl | rfl | rfl
  · exact key _ [.type "NoneType", .type "object"] (by decide +kernel) (by simp)
  · exact key _ [.type "bool", .type "int", .type "object"] (by decide +kernel) (by simp)
  · exact key _ [.type "int", .type "object"] (by decide +kernel) (by simp)
  · exact key _ [.type "str", .type "object"] (by decide +kernel) (by simp)
  · exact key _ [.type "tuple", .type "object"] (by decide +kernel) (by simp)
  · exact key _ [.type "list", .type "object"] (by decide +kernel) (by simp)
  · exact key _ [.type "dict", .type "object"] (by decide +kernel) (by simp)
/-- things that are no instance, of the kinds above -/
def BltD : D → Prop
  | .non | .bl _ | .int _ | .str _ | .tup _ | .lst _ | .fl _ => True
  | .oth (.type "dict") => True
  | _ => False
theorem blt_kind {F H : Hp} {v : V} {d : D} (s : Same F H) (r : Rep K F v d) (h : BltD d) : ∃ T, T ∈ kindNames ∧ KindV K H v T := by
  have r := r.mono s
  cases r with
  | non => exact ⟨_, by simp [kindNames], .non⟩
  | bl b => exact ⟨_, by simp [kindNames], .bl b⟩
  | int b => exact ⟨_, by simp [kindNames], .int b⟩
  | str b => exact ⟨_, by simp [kindNames], .str b⟩
  | tup a _ => exact ⟨_, by simp [kindNames], .tup a⟩
  | lst a _ => exact ⟨_, by simp [kindNames], .lst (.inl (.inl a))⟩
  | fl a _ => exact ⟨_, by simp [kindNames], .lst a⟩
  | ty _ => exact h.elim
  | adr _ => exact h.elim
  | oth t =>
    unfold BltD at h
    split at h
    · cases ‹D.oth _ = _›
    · cases ‹D.oth _ = _›
    · cases ‹D.oth _ = _›
    · cases ‹D.oth _ = _›
    · cases ‹D.oth _ = _›
    · cases ‹D.oth _ = _›
    · cases ‹D.oth _ = _›
    · rename_i e
      cases e
      exact ⟨_, by simp [kindNames], .dct t⟩
    · exact h.elim
  | ins _ _ => exact h.elim
/-- no built-in kind is below the class -/
def NoSub (K : PySem.W.Frag) (C : Addr) : Prop := ∀ T ∈ kindNames, PySem.W.subIn K (.ref C) (.type T) = some false
/-- == or != of an instance (of the class at C) with anything, either way round, over data -/
def gCmpO (K : PySem.W.Frag) (C : Addr) (fs : FS) (neg : Bool) : D → D → (D → Prop) → Prop := fun d1 d2 q => ∃ gs,
  (d1 = .ins C gs ∧ (BltD d2 ∨ ∃ C' gs', d2 = .ins C' gs' ∧ PySem.W.notFirst K C (.ref C') = true) ∧ fs [.dat d1, .dat d2] (fun d _ => ∃ k, d = .bl k ∧ q (.bl (if neg then !k else k))) (fun _ _ => False)) ∨
  (d2 = .ins C gs ∧ BltD d1 ∧ NoSub K C ∧ fs [.dat d2, .dat d1] (fun d _ => ∃ k, d = .bl k ∧ q (.bl (if neg then !k else k))) (fun _ _ => False))
/-- an operation that may call defs of the text -/
def Op2T (K : PySem.W.Frag) (r : R2) (g : D → D → (D → Prop) → Prop) : Prop :=
  ∀ (F H F0 H0 : Hp) (σ : L2.St) (τ τ0 : List Cell) (v1 v2 : V) (d1 d2 : D) (q : D → Prop) (Q : VK), To K F0 H0 σ τ0 F H τ → Rep K F v1 d1 → Rep K F v2 d2 → g d1 d2 q →
    (∀ v d F' H', To K F0 H0 σ τ0 F' H' τ → Rep K F' v d → q d → Q v H') → r v1 v2 H Q
theorem de_opT {r : R2} {g : D → D → (D → Prop) → Prop} {ta tb : TE} {wa wb : EW} (o : Op2T K r g) (ha : DE K W ta wa) (hb : DE K W tb wb) : DE K W (tOp r ta tb) (wOp g wa wb) := by
  refine ⟨fun σ H τ F Q q e S h k x => ?_⟩
  refine ha.run σ H τ F _ _ e S h (fun v1 d1 τ1 F1 H1 t1 r1 h1 => ?_) x
  refine hb.run σ H1 τ1 F1 _ _ e t1.ok h1 (fun v2 d2 τ2 F2 H2 t2 r2 h2 => ?_) (x.of t1)
  exact o F2 H2 F H σ τ2 τ v1 v2 d1 d2 _ Q (t1.trans t2) (r1.mono t2.ext.f) r2 h2 fun v d F' H' T r hq => k v d τ2 F' H' T r hq
def rOr (r1 r2 : R2) : R2 := fun x y H Q => r1 x y H Q ∨ r2 x y H Q
def gOr (g1 g2 : D → D → (D → Prop) → Prop) : D → D → (D → Prop) → Prop := fun x y q => g1 x y q ∨ g2 x y q
theorem o_or {r1 r2 : R2} {g1 g2 : D → D → (D → Prop) → Prop} (h1 : Op2T K r1 g1) (h2 : Op2T K r2 g2) : Op2T K (rOr r1 r2) (gOr g1 g2) := fun F H F0 H0 σ τ τ0 v1 v2 d1 d2 q Q t a b h k =>
  h.elim (fun h => .inl (h1 F H F0 H0 σ τ τ0 v1 v2 d1 d2 q Q t a b h k)) fun h => .inr (h2 F H F0 H0 σ τ τ0 v1 v2 d1 d2 q Q t a b h k)
theorem op_or {X : Cx} {f : Value → Value → Sem Value} {r1 r2 : R2} (h1 : OpR X f r1) (h2 : OpR X f r2) : OpR X f (rOr r1 r2) := fun pins s σ H x y v u Q I a b h =>
  h.elim (h1 pins s σ H x y v u Q I a b) (h2 pins s σ H x y v u Q I a b)
theorem cmp_sp {F H F0 H0 : Hp} {σ : L2.St} {τ τ0 : List Cell} {v1 v2 : V} {d1 d2 : D} {fs : FS} {q : D → Prop} {Q : VK} {E : XK} (t : To K F0 H0 σ τ0 F H τ) (r1 : Rep K F v1 d1) (r2 : Rep K F v2 d2)
    (h : fs [.dat d1, .dat d2] (fun d _ => q d) (fun _ _ => False)) (k : ∀ v d F' H', To K F0 H0 σ τ0 F' H' τ → Rep K F' v d → q d → Q v H') : spOf K 2 fs [v1, v2] H Q E := by
  have a : ArgsOk K F σ [v1, v2] [.d d1, .d d2] := .d r1 (.d r2 .nil)
  refine ⟨rfl, F, [.dat d1, .dat d2], _, _, pre_call t a List.nodup_nil, h, fun v d cs' F2 H2 x2 s2 c2 r2 hq => ?_, fun y cls dx cs' F2 H2 x2 s2 c2 r2 hq => hq.elim⟩
  have T := call_to (as := [.d d1, .d d2]) t List.nodup_nil trivial x2 s2 c2
  have e : putBack τ [.d d1, .d d2] cs' = τ := by
    cases cs' with
    | nil => simp [putBack]
    | cons c cs => cases cs <;> simp [putBack]
  rw [e] at T
  exact k v d F2 H2 T r2 hq
theorem o_cmpO {C : Addr} {fs : FS} {neg : Bool} {E : XK} : Op2T K (rCmpO K C (spOf K 2 fs) E neg) (gCmpO K C fs neg) := by
  intro F2 H2 F H σ τ2 τ v1 v2 d1 d2 q Q t r1 r2 h2 k
  obtain ⟨gs, ⟨rfl, hy, hf⟩ | ⟨rfl, hy, hn, hf⟩⟩ := h2
  · have rr := r1.mono t.ok.sub
    have r1c := r1
    cases rr with
    | @ins a _ dx fv _ ea _ =>
      refine ⟨a, dx, fv, ea, .inl ⟨rfl, ?_, ?_⟩⟩
      · rcases hy with hy | ⟨C', gs', rfl, hn⟩
        · obtain ⟨T, hT, hk⟩ := blt_kind t.ok.sub r2 hy
          refine .inl ⟨T, hk, ?_⟩
          unfold PySem.W.notFirst
          rw [sub_bi hT]
          simp
        · have rr2 := r2.mono t.ok.sub
          cases rr2 with
          | @ins b _ dy fw _ eb _ => exact .inr ⟨b, C', dy, fw, rfl, eb, hn⟩
      · refine cmp_sp t r1c r2 hf fun v d F' H' T r hq => ?_
        obtain ⟨kk, rfl, hq⟩ := hq
        cases r
        exact ⟨kk, rfl, k _ _ F' H' T (.bl _) hq⟩
  · have rr := r2.mono t.ok.sub
    have r2c := r2
    cases rr with
    | @ins a _ dx fv _ ea _ =>
      obtain ⟨T, hT, hk⟩ := blt_kind t.ok.sub r1 hy
      refine ⟨a, dx, fv, ea, .inr ⟨rfl, ⟨T, hk, hn T hT⟩, ?_⟩⟩
      refine cmp_sp t r2c r1 hf fun v d F' H' T r hq => ?_
      obtain ⟨kk, rfl, hq⟩ := hq
      cases r
      exact ⟨kk, rfl, k _ _ F' H' T (.bl _) hq⟩
end L3

/-! ## isinstance with a class of the text -/
namespace L3
open PySem PySem.Spec PyProof.Rows L2
variable [TB : TabT]
variable {K : PySem.W.Frag} {W : WX}

def gIsiC (K : PySem.W.Frag) (C : Addr) : D → (D → Prop) → Prop := fun d q => ∃ b, ((noTy d ∧ PySem.W.kitOne K (tyD d) (.ref C) = some b) ∨ (∃ C' gs, d = .ins C' gs ∧ InsTy K C' ∧ PySem.W.kitOne K (.ref C') (.ref C) = some b)) ∧ q (.bl b)
def wIsiC (C : Addr) (K : PySem.W.Frag) (wa : EW) : EW := fun τ q e => wa τ (fun d τ' => gIsiC K C d fun d' => q d' τ') e
theorem de_isiC {C : Addr} {ta : TE} {wa : EW} (ha : DE K W ta wa) : DE K W (tCB (rIsi K) (tCons ta (tCons (tC (.ref C)) tNil))) (wIsiC C K wa) := by
  refine ⟨fun σ H τ F Q q e S h k x => ?_⟩
  refine ha.run σ H τ F _ _ e S h (fun v d τ1 F1 H1 t1 r1 h1 => ?_) x
  obtain ⟨b, ht, hq⟩ := h1
  have fin : Q (.bl b) H1 := k (.bl b) (.bl b) τ1 F1 H1 t1 (.bl b) hq
  rcases ht with ⟨nt, e1⟩ | ⟨C', gs, rfl, c, e1⟩
  · exact ⟨v, .ref C, tyD d, .ref C, b, rfl, .own C, TyX_mono t1.ok.sub (r1.tyX nt), e1, fin⟩
  · have rr := r1.mono t1.ok.sub
    cases rr with
    | @ins a _ dx fv _ ea _ => exact ⟨.ref a, .ref C, .ref C', .ref C, b, rfl, .own C, .base (.ins ea c.cl c.ha c.hn c.ht c.hm), e1, fin⟩
end L3

namespace L2
open PySem PySem.Spec PyProof.Rows
theorem fnR0 {P : Program} {w : World} {K : PySem.W.Frag} {mg : Str → Option Value} {base : Heap} {CX : CXT} {k : Nat} {f : Addr} {sp : Sp} {fd : FuncData} {ps : List Str} (F : FnOk P w K mg base CX k f fd ps sp) (hb : Binds K fd ps []) : FnR P w K mg base CX k f sp :=
  (F.raw hb .nil).imp fun vs H Q E h => by rw [List.append_nil]; exact h
end L2

/-! ## the pool, while, pop, remove, lists of one's own out of others, try .. except -/
namespace L3
open PySem PySem.Spec PyProof.Rows L2
variable [TB : TabT]
section
variable {K : PySem.W.Frag} {W : WX}
/-- a cell is exchanged -/
theorem SOk.change {F H : Hp} {σ : L2.St} {τ : List Cell} {i : Nat} {c c' : Cell} (S : SOk K F H σ τ) (h : τ[i]? = some c) (co : CellOk K F H c') (sl : ∀ s, SlotOk K F s c → SlotOk K F s c') (less : ∀ a, Has c' a → Has c a ∨ ¬ IsOwn τ a) : SOk K F H σ (τ.set i c') := by
  refine ⟨S.tabs, S.sub, by rw [List.length_set]; exact S.len, fun j s d h1 h2 => ?_, fun j d e => ?_, S.inj.set fun a f j d nj e f2 => ?_⟩
  · rcases set_get h2 with ⟨rfl, rfl, _⟩ | ⟨_, h2⟩
    · exact sl s (S.slot j s _ h1 h)
    · exact S.slot j s d h1 h2
  · rcases set_get e with ⟨_, rfl, _⟩ | ⟨_, e⟩
    · exact co
    · exact S.own j d e
  · rcases less a f with z | z
    · exact nj (S.inj j i d c a e h f2 z)
    · exact z ⟨j, d, e, f2⟩
/-- x = y[2], y the pool: its list is a name's own as long as it is handed about -/
def wPoolOpen (i j : Nat) : SW := fun E τ => i ≠ j ∧ j < τ.length ∧ ∃ p a b q ns, τ[i]? = some (.own p (.pool a b q ns)) ∧ E.nx ((τ.set i (.own p (.lst [.int a, .int b, .adr q]))).set j (.own q (.lst (ns.map D.int))))
theorem ds_poolOpen {i j : Nat} : DS K W (tAsg (tOp (rIx K) (tVar i) (tC (.int 2))) (gName j)) (wPoolOpen i j) := by
  refine ⟨fun σ H τ F Dn E S ⟨hij, hj, p, a, b, q, ns, e0, hq⟩ o => ?_⟩
  have hi : i < σ.length := by rw [S.len]; exact (List.getElem?_eq_some_iff.mp e0).1
  have s0 : σ[i] = some (.ref p) := S.slot i σ[i] _ (List.getElem?_eq_getElem hi) e0
  obtain ⟨hF, vs, hH, hR, hn, fq, hq2⟩ := S.own i _ e0
  cases hR
  refine ⟨.ref p, by rw [List.getElem?_eq_getElem hi, s0], .inl ⟨p, _, 2, .ref q, rfl, rfl, .inl (.inl hH), rfl, ?_⟩⟩
  have S1 : SOk K F H σ (τ.set i (.own p (.lst [.int a, .int b, .adr q]))) := S.change e0 ⟨hF, _, hH, .lst (.cons (.int _) (.cons (.int _) (.cons (.adr _) .nil))), trivial⟩ (fun s h => h) fun x f => .inl (.inl (flat_has (k := .lst [.int a, .int b, .adr q]) trivial f))
  have nq : ¬ IsOwn (τ.set i (.own p (.lst [.int a, .int b, .adr q]))) q := fun ⟨k, d, e, f⟩ => by
    rcases set_get e with ⟨_, rfl, _⟩ | ⟨nk, e⟩
    · exact hn (flat_has (k := .lst [.int a, .int b, .adr q]) trivial f)
    · exact nk (S.inj k i d _ q e e0 f (.inr rfl))
  have S2 : SOk K F H (σ.set j (some (.ref q))) ((τ.set i (.own p (.lst [.int a, .int b, .adr q]))).set j (.own q (.lst (ns.map D.int)))) :=
    S1.setOwn (.flat trivial fq hq2 (.lst .ints)) fun x f => by rw [flat_has (k := .lst (ns.map D.int)) trivial f]; exact nq
  refine o.nx _ _ F H ⟨.refl _ _ _, fun x ⟨k, d, e, f⟩ => .inl ?_, S2⟩ hq
  rcases set_get e with ⟨_, rfl, _⟩ | ⟨_, e⟩
  · rw [flat_has (k := .lst (ns.map D.int)) trivial f]
    exact ⟨i, _, e0, .inr rfl⟩
  · rcases set_get e with ⟨_, rfl, _⟩ | ⟨_, e⟩
    · rw [flat_has (k := .lst [.int a, .int b, .adr q]) trivial f]
      exact isOwn_at e0
    · exact ⟨k, d, e, f⟩
/-- the pool is whole again, ahead of a statement -/
def wPoolClose (i j : Nat) (w : SW) : SW := fun E τ => i ≠ j ∧ ∃ p a b q ns, τ[i]? = some (.own p (.lst [.int a, .int b, .adr q])) ∧ τ[j]? = some (.own q (.lst (ns.map D.int))) ∧ w E ((τ.set j .any).set i (.own p (.pool a b q ns)))
theorem ds_poolClose {i j : Nat} {t : TS} {w : SW} (h : DS K W t w) : DS K W t (wPoolClose i j w) := by
  refine ⟨fun σ H τ F Dn E S ⟨hij, p, a, b, q, ns, e0, e1, hw⟩ o => ?_⟩
  obtain ⟨hF, vs, hH, hR, _⟩ := S.own i _ e0
  obtain ⟨fq, us, hq, hR2, _⟩ := S.own j _ e1
  cases hR2 with
  | @lst us _ r2 =>
    have := Reps.intsV r2
    subst this
    cases hR with
    | @lst vs _ r =>
      cases r with
      | cons r1 r =>
        cases r1
        cases r with
        | cons r1 r =>
          cases r1
          cases r with
          | cons r1 r =>
            cases r1
            cases r
            have hne : q ≠ p := fun z => hij (S.inj i j _ _ p e0 e1 (.inl rfl) (.inl z.symm))
            have S1 : SOk K F H σ (τ.set j .any) := S.change e1 trivial (fun _ _ => trivial) fun x f => f.elim
            have e2 : (τ.set j .any)[i]? = some (.own p (.lst [.int a, .int b, .adr q])) := by rw [List.getElem?_set_ne (Ne.symm hij)]; exact e0
            have nq : ¬ IsOwn (τ.set j .any) q := fun ⟨k, d, e, f⟩ => by
              rcases set_get e with ⟨_, rfl, _⟩ | ⟨nk, e⟩
              · exact f.elim
              · exact nk (S.inj k j d _ q e e1 f (.inl rfl))
            have S2 : SOk K F H σ ((τ.set j .any).set i (.own p (.pool a b q ns))) := S1.change e2 ⟨hF, _, hH, .pool, hne, fq, hq⟩ (fun s h => h) fun x f => f.elim (fun z => .inl (.inl z)) fun z => .inr (by rw [show x = q from z]; exact nq)
            have g : Grow τ H ((τ.set j .any).set i (.own p (.pool a b q ns))) := fun x ⟨k, d, e, f⟩ => .inl (by
              rcases set_get e with ⟨_, rfl, _⟩ | ⟨_, e⟩
              · rcases f with rfl | f
                · exact isOwn_at e0
                · rw [show x = q from f]; exact isOwn_at e1
              · rcases set_get e with ⟨_, rfl, _⟩ | ⟨_, e⟩
                · exact f.elim
                · exact ⟨k, d, e, f⟩)
            exact h.run σ H _ F Dn E S2 hw (o.of ⟨.refl _ _ _, g, S2⟩)
/-- return [a, b, [.. for ..]]: a pool -/
def wRetPool (wa wb : EW) (wI : IW) (wg : GW) (wt : TW) (we : EW) (vs : List Nat) : SW := fun E τ => wa τ (fun d1 τ1 => wb τ1 (fun d2 τ2 => ∃ a b, d1 = .int a ∧ d2 = .int b ∧ wI τ2 (fun ds τ3 => ds.length ≤ 1000 ∧ ∃ inv : Nat → List D → List Cell → Prop, inv 0 [] (wipeD τ3 vs) ∧
  (∀ i d acc τ4, ds[i]? = some d → inv i acc τ4 → acc.length ≤ i → wg d τ4 fun τ5 => wt τ5 (fun b τ6 => (b = true → we τ6 (fun y τ7 => inv (i + 1) (acc ++ [y]) (wipeD τ7 vs)) noX) ∧ (b = false → inv (i + 1) acc (wipeD τ6 vs))) noX) ∧
  ∀ acc τ4, inv ds.length acc (wipeD τ4 vs) → acc.length ≤ ds.length → ∃ ns, acc = ns.map D.int ∧ ∀ q, E.rf (.pool a b q ns) (wipeD τ4 vs)) E.ex) E.ex) E.ex
theorem ds_retPool {ta tb : TE} {wa wb : EW} {wi : TI} {g : TG} {tt : TT} {te : TE} {vs ws : List Nat} {wI : IW} {wg : GW} {wt : TW} {we : EW} (ha : DE K W ta wa) (hb : DE K W tb wb) (hi : DI K W wi wI) (hg : DG K ws g wg) (ht : DT K W0 tt wt) (he : DE K W0 te we) (hs : ∀ j ∈ ws, j ∈ vs) :
    DS K W (tRet (tLst (tCons ta (tCons tb (tCons (tLc wi g tt te vs) tNil))))) (wRetPool wa wb wI wg wt we vs) := by
  refine ⟨fun σ H τ F Dn E S hw o => ha.run σ H τ F _ _ E.ex S hw (fun v1 d1 τ1 F1 H1 t1 r1 hw1 => ?_) o.xto⟩
  refine hb.run σ H1 τ1 F1 _ _ E.ex t1.ok hw1 (fun v2 d2 τ2 F2 H2 t2 r2 ⟨a, b, e1, e2, hw2⟩ => ?_) (o.of t1).xto
  subst e1 e2
  have t12 := t1.trans t2
  refine hi.run σ H2 τ2 F2 _ _ E.ex t2.ok hw2 (fun J ds τ3 F3 H3 t3 it ⟨hn, inv, h0, hst, hd⟩ Da hD => ?_) (o.of t12).xto
  have t13 := t12.trans t3
  refine lc_turns hg ht he hs t3.ok it hD hn h0 hst fun accV acc F4 H4 τ4 T fD nD hH ra la hinv => ?_
  have T1 : To K F H σ τ F4 H4 (wipeD τ4 vs) := by
    refine t13.trans (To.at (τ1 := wipeD τ4 vs) T ?_ fun p h => h)
    rw [← wipeD_idem]
    exact T.ok.wiped (by rw [wipe_length]) fun j hj => (wipe_ne hj).symm
  obtain ⟨ns, ea, hq⟩ := hd acc τ4 hinv la
  subst ea
  have := Reps.intsV ra
  subst this
  have ev1 := r1.int_of
  have ev2 := r2.int_of
  subst ev1 ev2
  refine ⟨(show (3 : Nat) ≤ sizeLine by decide), fun p hp => ?_⟩
  have hp0 := T1.back (fr_none hp)
  have nF := new_not_data T1.ok hp
  have nO := new_not_own T1.ok hp
  have ne : Da ≠ p := fun z => by rw [z, hp] at hH; cases hH
  have hDa : Fr H Da := t13.back (fr_none hD)
  refine o.rf p (.pool a b Da ns) _ F4 _ (T1.touch hp0 nF nO (tabs_new hp)).ret ⟨nF, _, upd_same, .pool, ne, fD, by rw [upd_ne ne]; exact hH⟩ (fun x f => ?_) (hq Da)
  rcases f with rfl | f
  · exact ⟨hp0, nO⟩
  · rw [show x = Da from f]
    exact ⟨hDa, nD⟩
/-- x.pop(0), as a statement -/
def wPop0 (i : Nat) : SW := fun E τ => ∃ p x es, τ[i]? = some (.own p (.lst (x :: es))) ∧ E.nx (τ.set i (.own p (.lst es)))
theorem ds_pop0 {i : Nat} : DS K W (tDrop (tBM K "list" rPopAt (tVar i) (tCons (tC (.int 0)) tNil))) (wPop0 i) := by
  refine ⟨fun σ H τ F Dn E S ⟨p, x, es, e0, hq⟩ o => ?_⟩
  obtain ⟨s0, _, vs0, h0, r0⟩ := own_lst S e0
  refine ⟨.ref p, s0, .inl ⟨rfl, vs0, .inl (.inl h0)⟩, ?_⟩
  cases r0 with
  | @cons v vs _ _ r1 r2 =>
    refine ⟨p, v :: vs, 0, 0, v, rfl, rfl, h0, by decide, by decide, ?_, rfl, ?_⟩
    · unfold seqIndex?
      simp
    · exact o.nx σ _ F _ (to_change (.refl S) e0 (.lst r2)) hq
/-- y = x.pop() -/
def wPopTo (i j : Nat) : SW := fun E τ => ∃ p es x, τ[i]? = some (.own p (.lst (es ++ [x]))) ∧ E.nx ((τ.set i (.own p (.lst es))).set j (.dat x))
theorem Reps.snoc {F : Hp} {ds : List D} {d : D} : ∀ {vs : List V}, Reps K F vs (ds ++ [d]) → ∃ us v, vs = us ++ [v] ∧ Reps K F us ds ∧ Rep K F v d := by
  induction ds with
  | nil =>
    intro vs r
    obtain ⟨v, e, r1⟩ := Reps.one r
    exact ⟨[], v, e, .nil, r1⟩
  | cons x ds ih =>
    intro vs r
    cases r with
    | cons r1 r2 =>
      obtain ⟨us, v, rfl, r3, r4⟩ := ih r2
      exact ⟨_ :: us, v, rfl, .cons r1 r3, r4⟩
theorem ds_popTo {i j : Nat} : DS K W (tAsg (tBM0 K "list" rPop (tVar i)) (gName j)) (wPopTo i j) := by
  refine ⟨fun σ H τ F Dn E S ⟨p, es, x, e0, hq⟩ o => ?_⟩
  obtain ⟨s0, _, vs0, h0, r0⟩ := own_lst S e0
  obtain ⟨us, v, rfl, r1, r2⟩ := r0.snoc
  refine ⟨.ref p, s0, .inl ⟨rfl, _, .inl (.inl h0)⟩, p, us ++ [v], v, rfl, rfl, h0, by simp, ?_⟩
  rw [List.dropLast_concat]
  have T := to_change (es := .lst es) (.refl S) e0 (.lst r1)
  exact o.nx _ _ F _ (T.at (T.ok.set r2) fun a h => isOwn_set (c := .dat x) (fun a z => z) h) hq
/-- while -/
def wWhile (wc : TW) (wb : SW) : SW := fun E τ => ∃ inv : Nat → List Cell → Prop, (∃ m, inv m τ) ∧ ∀ m τ1, inv m τ1 → wc τ1 (fun b τ2 => (b = true → wb { E with nx := fun τ3 => ∃ m', m' < m ∧ inv m' τ3, ct := fun τ3 => ∃ m', m' < m ∧ inv m' τ3, bk := E.nx } τ2) ∧ (b = false → E.nx τ2)) E.ex
theorem ds_while {tc : TT} {tb : TS} {wc : TW} {wb : SW} (hc : DT K W tc wc) (hb : DS K W tb wb) : DS K W (tWhile tc tb) (wWhile wc wb) := by
  refine ⟨fun σ H τ F Dn E S ⟨inv, ⟨m0, h0⟩, hst⟩ o => ?_⟩
  refine ⟨fun m σ2 H2 => ∃ τ2 F2, To K F H σ2 τ F2 H2 τ2 ∧ inv m τ2, ⟨m0, τ, F, .refl S, h0⟩, ?_⟩
  rintro m σ2 H2 ⟨τ2, F2, t2, hinv⟩
  refine hc.run σ2 H2 τ2 F2 _ _ E.ex t2.ok (hst m τ2 hinv) (fun b τ3 F3 H3 t3 ⟨h1, h2⟩ => ?_) (o.of t2).xto
  have T3 := t2.trans t3
  cases b with
  | true =>
    refine iteT ?_
    refine ⟨fun σ' H' => ∃ m', m' < m ∧ ∃ τ' F', To K F H σ' τ F' H' τ' ∧ inv m' τ', fun σ' H' ⟨m', hm, τ', F', t', q⟩ => ⟨m', hm, τ', F', t', q⟩, ?_⟩
    have o3 := o.of T3
    refine hb.run σ2 H3 τ3 F3 _ _ T3.ok (h1 rfl) ⟨fun σ' τ' F' H' u ⟨m', hm, q⟩ => ⟨m', hm, τ', F', T3.trans u, q⟩, fun σ' τ' F' H' u q => o3.nx σ' τ' F' H' u q, fun σ' τ' F' H' u ⟨m', hm, q⟩ => ⟨m', hm, τ', F', T3.trans u, q⟩, o3.rt, o3.ex, o3.rf⟩
  | false =>
    refine iteF ?_
    exact o.nx σ2 τ3 F3 H3 T3 (h2 rfl)
/-- x = list(e): a list of the name's own -/
def wListOwn (i : Nat) (wa : AW) : SW := fun E τ => wa τ (fun ds τ' => ∃ d es, ds = [d] ∧ seqD d = some es ∧ ∀ p, E.nx (τ'.set i (.own p (.lst es)))) E.ex
theorem ds_listOwn {i : Nat} {t : TA} {w : AW} (h : DA K W t w) : DS K W (tAsg (tCB (rListOf K) t) (gName i)) (wListOwn i w) := by
  refine ⟨fun σ H τ F Dn E S hw o => h.run σ H τ F _ _ E.ex S hw (fun vs ds τ' F' H' t' r ⟨d, es, ed, e, hq⟩ => ?_) o.xto⟩
  subst ed
  obtain ⟨v, rfl, r1⟩ := r.one
  obtain ⟨a, ys, rfl, hs, r2⟩ := r1.seq e
  exact ⟨a, ys, rfl, hs.imp (fun h => t'.ok.sub.seq h) (fun h => SqT_mono t'.ok.sub h), fun l hl => o.nx _ _ F' _ (to_own t' hl (.lst r2)) (hq l)⟩
/-- for .. in x, x an own list that stays as it is meanwhile -/
def wForOwn (i : Nat) (wg : GW) (wb : SW) : SW := fun E τ => ∃ p es, τ[i]? = some (.own p (.lst es)) ∧ ∃ inv : Nat → List Cell → Prop, inv 0 τ ∧
  (∀ k d τ2, es[k]? = some d → inv k τ2 → τ2[i]? = some (.own p (.lst es)) ∧ wg d τ2 fun τ3 => wb { E with nx := inv (k + 1), ct := inv (k + 1), bk := E.nx } τ3) ∧ ∀ τ2, inv es.length τ2 → τ2[i]? = some (.own p (.lst es)) ∧ E.nx τ2
theorem ds_forOwn {i : Nat} {g : TG} {tb : TS} {vs : List Nat} {wg : GW} {wb : SW} (hg : DG K vs g wg) (hb : DS K W tb wb) : DS K W (tFor (iSeq K (tVar i)) g tb) (wForOwn i wg wb) := by
  refine ⟨fun σ H τ F Dn E S ⟨p, es, e0, inv, h0, hst, hd⟩ o => ?_⟩
  obtain ⟨s0, _, vs0, hh0, r0⟩ := own_lst S e0
  refine ⟨.ref p, s0, p, rfl, .inl ⟨⟨vs0, .inl (.inl hh0)⟩, ?_⟩⟩
  refine ⟨fun k m σ2 H2 => m = es.length - k ∧ k ≤ es.length ∧ ∃ τ2 F2, To K F H σ2 τ F2 H2 τ2 ∧ inv k τ2, ⟨_, rfl, Nat.zero_le _, τ, F, .refl S, h0⟩, ?_⟩
  rintro k m σ2 H2 ⟨rfl, hle, τ2, F2, t2, hinv⟩
  by_cases hlt : k < es.length
  · obtain ⟨e2, hw⟩ := hst k es[k] τ2 (List.getElem?_eq_getElem hlt) hinv
    obtain ⟨_, _, us, hh2, r2⟩ := own_lst t2.ok e2
    have hlu : k < us.length := by rw [r2.length]; exact hlt
    refine .inr ⟨⟨us, us[k], .inl (.inl hh2), List.getElem?_eq_getElem hlu⟩, fun σ' H' => ∃ τ' F', To K F H σ' τ F' H' τ' ∧ inv (k + 1) τ', fun σ' H' ⟨τ', F', t', q⟩ => ⟨es.length - (k + 1), by omega, rfl, hlt, τ', F', t', q⟩, fun x H' y => ?_⟩
    obtain ⟨rfl, y⟩ := y
    have ex := y us (.inl (.inl hh2))
    obtain ⟨d, ed, rd⟩ := r2.get ex
    rw [List.getElem?_eq_getElem hlt] at ed
    cases ed
    refine hg.run σ2 H' τ2 F2 x _ _ _ t2.ok rd hw fun σ4 τ4 S4 o4 _ _ h4 => ?_
    have T4 : To K F H σ4 τ F2 H' τ4 := t2.at S4 o4
    refine hb.run σ4 H' τ4 F2 _ _ S4 h4 ?_
    have o4 := o.of T4
    exact ⟨fun σ' τ' F' H' u q => ⟨τ', F', T4.trans u, q⟩, fun σ' τ' F' H' u q => o4.nx σ' τ' F' H' u q, fun σ' τ' F' H' u q => ⟨τ', F', T4.trans u, q⟩, o4.rt, o4.ex, o4.rf⟩
  · have e : k = es.length := by omega
    subst e
    obtain ⟨e2, hw⟩ := hd τ2 hinv
    obtain ⟨_, _, us, hh2, r2⟩ := own_lst t2.ok e2
    exact .inl ⟨⟨us, .inl (.inl hh2), by rw [r2.length]; exact Nat.le_refl _⟩, o.nx σ2 τ2 F2 H2 t2 hw⟩
/-- x.remove(e), x an own list -/
def rRemD (K : PySem.W.Frag) : V → List V → Hp → VK → Prop := fun x vs H Q => ∃ l xs ps v d j, x = .ref l ∧ vs = [v] ∧ H l = some (.lst xs) ∧ DpAll K H xs ps ∧ Dp K H v d ∧ SeqAt.shaped (.list ps) = true ∧ SeqAt.shaped d = true ∧ SeqAt.dataPlace ps d = some j ∧ Q .non (upd H l (.lst (xs.eraseIdx j)))
theorem mt_removeD {X : Cx} (hu : X.A.units + 65 < cLine) : MtR X "list.remove" (rRemD X.K) := by
  intro pins s σ H x vs v us Q I rx rv h
  obtain ⟨l, xs, ps, w, d, j, rfl, rfl, hH, hp, hd, s1, s2, hj, q⟩ := h
  cases rx
  obtain ⟨u, rfl, ru⟩ := rv.one
  obtain ⟨z, its, n, r, hl, e⟩ := I.lstM hH
  obtain ⟨as, ra⟩ := Dp.readsAll I ps xs its hp r
  obtain ⟨bs, rb⟩ := Dp.reads I d w u hd ru
  have c1 : (PyData.list ps).canLay0 = true := SeqAt.canLay_of_shaped s1
  have c2 : (PyData.list ps).plain = true := PyData.plain_of_canLay0 _ c1
  refine SeqAt.remove_list_data (vs := its.toArray) ⟨_, e, rfl, n, rfl⟩ ra rb c2 (PyData.plain_of_canLay0 _ (SeqAt.canLay_of_shaped s2)) (room_in_shaped s2 hu) hj (by rw [List.size_toArray]; omega) ⟨.non, _, I.lset (its' := its.eraseIdx j) hH e ?_ (r.eraseIdx j) ?_, rfl, q⟩
  · show its.toArray.eraseIdxIfInBounds j = (its.eraseIdx j).toArray
    rw [List.eraseIdxIfInBounds_toArray]
  · have := len_erase xs j
    omega
def wRemove (i : Nat) (wa : AW) : SW := fun E τ => (∃ p es, τ[i]? = some (.own p (.lst es))) ∧ wa τ (fun ds τ' => ∃ p es d ps x j, ds = [d] ∧ τ'[i]? = some (.own p (.lst es)) ∧ toPys es = some ps ∧ toPy d = some x ∧ SeqAt.shaped (.list ps) = true ∧ SeqAt.shaped x = true ∧ SeqAt.dataPlace ps x = some j ∧ E.nx (τ'.set i (.own p (.lst (es.eraseIdx j))))) E.ex
theorem Reps.erase {F : Hp} : ∀ {vs : List V} {ds : List D} (n : Nat), Reps K F vs ds → Reps K F (vs.eraseIdx n) (ds.eraseIdx n)
  | _, _, _, .nil => .nil
  | _, _, 0, .cons _ t => t
  | _, _, n + 1, .cons g t => .cons g (Reps.erase n t)
theorem ds_remove {i : Nat} {t : TA} {w : AW} (h : DA K W t w) : DS K W (tDrop (tBM K "list" (rRemD K) (tVar i) t)) (wRemove i w) := by
  refine ⟨fun σ H τ F Dn E S ⟨⟨p, es, e0⟩, hw⟩ o => ?_⟩
  obtain ⟨s0, _, vs0, h0, _⟩ := own_lst S e0
  refine ⟨.ref p, s0, .inl ⟨rfl, vs0, .inl (.inl h0)⟩, ?_⟩
  refine h.run σ H τ F _ _ E.ex S hw (fun vs ds τ' F' H' t' r ⟨p', es', d, ps, x, j, ed, e1, hp, hx, s1, s2, hj, hq⟩ => ?_) o.xto
  subst ed
  obtain ⟨v, rfl, r1⟩ := r.one
  obtain ⟨q1, _, vs1, h1, r2⟩ := own_lst t'.ok e1
  rw [s0] at q1
  cases q1
  refine ⟨p, vs1, ps, v, x, j, rfl, rfl, h1, DpAll_mono t'.ok.sub (dps_of r2 hp), Dp_mono t'.ok.sub (dp_of r1 hx), s1, s2, hj, ?_⟩
  exact o.nx σ _ F' _ (to_change t' e1 (.lst (r2.erase j))) hq
end
/-- try .. except C: -/
def wTry (K : PySem.W.Frag) (C : Addr) (wb wh : SW) : SW := fun E τ => wb { E with ex := fun x τ' => ∃ b, PySem.W.exmOne K (.ref x.cls) (.ref C) = some b ∧ (b = true → wh E τ') ∧ (b = false → E.ex x τ') } τ
section
variable {K : PySem.W.Frag} {W : WX}
theorem ds_try {C : Addr} {tb : WX → TS} {ts : TS} {wb wh : SW} (hb : ∀ W', DS K W' (tb W') wb) (hh : DS K W ts wh) : DS K W (fun D σ H => tb (L2.wOnly K (.ref C) (fun _ _ _ => ts) W D) D σ H) (wTry K C wb wh) := by
  refine ⟨fun σ H τ F Dn E S hw o => ?_⟩
  refine (hb _).run σ H τ F Dn _ S hw ⟨o.nx, o.bk, o.ct, o.rt, fun σ' x cls dx τ' F' H' t r ⟨b, e1, h1, h2⟩ => ?_, o.rf⟩
  exact ⟨b, by rw [r.c]; exact e1, fun z a ha => hh.run σ' H' τ' F' Dn E t.ok (h1 z) (o.of t), fun z => o.ex σ' x cls dx τ' F' H' t r (h2 z)⟩
end
theorem ixN31 : ixN 3 1 = some 1 := by decide
end L3

/-! ## is True, is False -/
namespace L3
open PySem PySem.Spec PyProof.Rows L2
variable [TB : TabT]
def rIsB : R2 := fun x y H Q => ∃ a b, x = .bl a ∧ y = .bl b ∧ Q (.bl (decide (a = b))) H
def rNotB : R2 := fun x y H Q => ∃ a b, x = .bl a ∧ y = .bl b ∧ Q (.bl (!decide (a = b))) H
theorem op_isB {X : Cx} : OpR X (compareOp .Is) rIsB := by
  intro pins s σ H x y v u Q I rx ry h
  obtain ⟨m, n, rfl, rfl, q⟩ := h
  cases rx
  cases ry
  by_cases e : m = n
  · subst e
    exact wpAny_is_self rfl ⟨.bl true, H, I, rfl, by simpa using q⟩
  · exact wpAny_is_other rfl (fun z => e (Value.bool.inj z)) ⟨.bl false, H, I, rfl, by simpa [e] using q⟩
theorem op_notB {X : Cx} : OpR X (compareOp .IsNot) rNotB := by
  intro pins s σ H x y v u Q I rx ry h
  obtain ⟨m, n, rfl, rfl, q⟩ := h
  cases rx
  cases ry
  by_cases e : m = n
  · subst e
    exact wpAny_isNot_self rfl ⟨.bl false, H, I, rfl, by simpa using q⟩
  · exact wpAny_isNot_other rfl (fun z => e (Value.bool.inj z)) ⟨.bl true, H, I, rfl, by simpa [e] using q⟩
section
variable {K : PySem.W.Frag}
def gIsB : D → D → (D → Prop) → Prop := fun x y q => ∃ a b, x = .bl a ∧ y = .bl b ∧ q (.bl (decide (a = b)))
def gNotB : D → D → (D → Prop) → Prop := fun x y q => ∃ a b, x = .bl a ∧ y = .bl b ∧ q (.bl (!decide (a = b)))
theorem o_isB : Op2 K rIsB gIsB := by
  rintro F H x y d1 d2 q Q s r1 r2 ⟨a, b, rfl, rfl, hq⟩ k
  exact ⟨a, b, r1.bl_of, r2.bl_of, k _ _ F H (.refl _ _ _) s (.bl _) hq⟩
theorem o_notB : Op2 K rNotB gNotB := by
  rintro F H x y d1 d2 q Q s r1 r2 ⟨a, b, rfl, rfl, hq⟩ k
  exact ⟨a, b, r1.bl_of, r2.bl_of, k _ _ F H (.refl _ _ _) s (.bl _) hq⟩
end
end L3

/-! ## in a list, not in a tuple, a list put together as one's own -/
namespace L3
open PySem PySem.Spec PyProof.Rows L2
variable [TB : TabT]
def rNotInT (K : PySem.W.Frag) : R2 := fun x y H Q => ∃ d ds, Dp K H x d ∧ Dp K H y (.tuple ds) ∧ SeqAt.shaped d = true ∧ SeqAt.shaped (.tuple ds) = true ∧ Q (.bl (!ds.any fun z => PyData.eqv z d)) H
theorem op_notInT {X : Cx} (hu : X.A.units + 65 < cLine) : OpR X (compareOp .NotIn) (rNotInT X.K) := by
  intro pins s σ H x y v u Q I rx ry h
  obtain ⟨d, ds, hd, he, sd, se, q⟩ := h
  obtain ⟨as, r1⟩ := Dp.reads I d x v hd rx
  obtain ⟨bs, r2⟩ := Dp.reads I (.tuple ds) y u he ry
  exact SeqAt.notIn_tuple_reads r2 r1 (SeqAt.canLay_of_shaped se) (SeqAt.canLay_of_shaped sd) (room_in_shaped sd hu) ⟨.bl _, H, I, rfl, q⟩
section
variable {K : PySem.W.Frag} {W : WX}
def gInL : D → D → (D → Prop) → Prop := fun x y q => ∃ d ds, toPy x = some d ∧ toPy y = some (.list ds) ∧ SeqAt.shaped d = true ∧ SeqAt.shaped (.list ds) = true ∧ q (.bl (ds.any fun z => PyData.eqv z d))
theorem o_inL : Op2 K (rInD K) gInL := by
  rintro F H x y d1 d2 q Q s r1 r2 ⟨v, ds, e1, e2, h1, h2, hq⟩ k
  exact ⟨v, ds, Dp_mono s (dp_of r1 e1), Dp_mono s (dp_of r2 e2), h1, h2, k _ _ F H (.refl _ _ _) s (.bl _) hq⟩
def gNotInT : D → D → (D → Prop) → Prop := fun x y q => ∃ d ds, toPy x = some d ∧ toPy y = some (.tuple ds) ∧ SeqAt.shaped d = true ∧ SeqAt.shaped (.tuple ds) = true ∧ q (.bl (!ds.any fun z => PyData.eqv z d))
theorem o_notInT : Op2 K (rNotInT K) gNotInT := by
  rintro F H x y d1 d2 q Q s r1 r2 ⟨v, ds, e1, e2, h1, h2, hq⟩ k
  exact ⟨v, ds, Dp_mono s (dp_of r1 e1), Dp_mono s (dp_of r2 e2), h1, h2, k _ _ F H (.refl _ _ _) s (.bl _) hq⟩
/-- x = a + b, lists: a list of the name's own -/
def wCatOwn (i : Nat) (wa wb : EW) : SW := fun E τ => wa τ (fun d1 τ1 => wb τ1 (fun d2 τ2 => ∃ as bs, d1 = .lst as ∧ d2 = .lst bs ∧ as.length + bs.length ≤ 1000 ∧ ∀ p, E.nx (τ2.set i (.own p (.lst (as ++ bs))))) E.ex) E.ex
theorem ds_catOwn {i : Nat} {ta tb : TE} {wa wb : EW} (ha : DE K W ta wa) (hb : DE K W tb wb) : DS K W (tAsg (tOp rCat ta tb) (gName i)) (wCatOwn i wa wb) := by
  refine ⟨fun σ H τ F Dn E S hw o => ha.run σ H τ F _ _ E.ex S hw (fun v1 d1 τ1 F1 H1 t1 r1 h1 => ?_) o.xto⟩
  refine hb.run σ H1 τ1 F1 _ _ E.ex t1.ok h1 (fun v2 d2 τ2 F2 H2 t2 r2 h2 => ?_) (o.of t1).xto
  obtain ⟨as, bs, rfl, rfl, hl, hq⟩ := h2
  have r1 := r1.mono t2.ext.f
  cases r1 with
  | @lst a xs _ h1 r1 =>
    cases r2 with
    | @lst b ys _ h2 r2 =>
      refine ⟨a, b, xs, ys, rfl, rfl, t2.ok.sub _ _ h1, t2.ok.sub _ _ h2, by rw [r1.length, r2.length]; exact Nat.le_of_lt (small1000 hl), fun p hp => ?_⟩
      exact o.nx _ _ F2 _ (to_own (t1.trans t2) hp (.lst (r1.append r2))) (hq p)
end
end L3

/-! ## zip of a tuple and a list, either way round -/
namespace L3
open PySem PySem.Spec PyProof.Rows L2
variable [TB : TabT]
/-- a tuple (true) or a list (false) -/
def SqK (K : PySem.W.Frag) (b : Bool) (H : Hp) (a : Addr) (xs : List V) : Prop := match b with | true => SqT K H a xs | false => SqL K H a xs
def ItK (b : Bool) (h : Heap) (it a : Addr) (i : Nat) : Prop := match b with | true => h.IsTupleIter it a i | false => h.IsListIter it a i
def HoK (b : Bool) (h : Heap) (a : Addr) (items : Array Value) : Prop := match b with | true => h.IsTuple a items | false => h.IsList a items
def obK (b : Bool) (a : Addr) : Obj := match b with | true => { cls := .type "tuple_iterator", data := .fields #[.ref a, .int 0 0] } | false => { cls := .type "list_iterator", data := .fields #[.ref a, .int 0 0] }
theorem draws_K {prog : Program} {w : World} {A : Around} (b : Bool) (hh : A.handled = none) (it l : Addr) (hne : l ≠ it) (items : Array Value) :
    Draws prog w A it [it, l] items.size (fun i v => items[i]? = some v) (fun i h => ItK b h it l i ∧ HoK b h l items) := by
  cases b with
  | true => exact Draws.tuple hh it l hne items
  | false => exact Draws.list hh it l hne items
theorem begins_K (b : Bool) (a : Addr) (items : Array Value) : Begins (.ref a) (obK b a) fun h => HoK b h a items := by
  cases b with
  | true => exact begins_tuple a items
  | false => exact begins_list a items
theorem seq_K {X : Cx} {pins : List (Addr × Obj)} {σ : L2.St} {H : Hp} {s : Shared} {b : Bool} {a : Addr} {xs : List V} (I : Inv X pins σ H s) (h : SqK X.K b H a xs) : ∃ its : List Value, Vals xs its ∧ HoK b s.heap a its.toArray ∧ a < s.heap.objs.size := by
  cases b with
  | true =>
    obtain ⟨its, rv, p, _⟩ := I.tuple h
    obtain ⟨o, ho, _⟩ := id p
    exact ⟨its, rv, p, Heap.lt_size ho⟩
  | false =>
    obtain ⟨its, rv, p, _⟩ := I.list h
    exact ⟨its, rv, p.isList, p.lt⟩
theorem inj_K {X : Cx} {pins : List (Addr × Obj)} {σ : L2.St} {H : Hp} {s : Shared} {b : Bool} {a : Addr} {xs ys : List V} (I : Inv X pins σ H s) (h : SqK X.K b H a xs) (g : SqK X.K b H a ys) : xs = ys := by
  cases b with
  | true => exact I.tuple_inj h g
  | false => exact I.list_inj h g
theorem it_obj {b : Bool} {h : Heap} {it a : Addr} {i : Nat} (d : ItK b h it a i) : ∃ o, h.get? it = some o ∧ ∀ v, o.data ≠ .cell v := by
  cases b with
  | true => obtain ⟨o, e, _, q⟩ := d; exact ⟨o, e, fun v z => by rw [q] at z; cases z⟩
  | false => obtain ⟨o, e, _, q⟩ := d; exact ⟨o, e, fun v z => by rw [q] at z; cases z⟩

def ItzK (K : PySem.W.Frag) (p q : Bool) (a b : Addr) : It :=
  ⟨fun i H => ∃ (xs ys : List V) (x y : V), SqK K p H a xs ∧ SqK K q H b ys ∧ xs[i]? = some x ∧ ys[i]? = some y,
    fun i H v H' => ∃ T x y, v = .ref T ∧ H T = none ∧ H' = upd H T (.tup [x, y]) ∧ (∀ xs, SqK K p H a xs → xs[i]? = some x) ∧ ∀ ys, SqK K q H b ys → ys[i]? = some y,
    fun i H => ∃ xs ys : List V, SqK K p H a xs ∧ SqK K q H b ys ∧ i ≤ xs.length ∧ i ≤ ys.length ∧ (i = xs.length ∨ i = ys.length)⟩
theorem sepK {z TI TO i1 i2 a b : Addr} (D : ZipApart z TI TO i1 i2 a b) : ZipSep2 z TI TO i1 i2 [i1, a] [i2, b] where
  TIz := D.TIz
  TOz := D.TOz
  TITO := D.TITO
  TIi1 := D.TIi1
  mem1 := by simp
  zf1 := by simp only [List.mem_cons, List.not_mem_nil, or_false, not_or]; exact ⟨D.i1z.symm, D.l1z.symm⟩
  Tf1 := by simp only [List.mem_cons, List.not_mem_nil, or_false, not_or]; exact ⟨D.TOi1, D.l1TO.symm⟩
  TIi2 := D.TIi2
  mem2 := by simp
  zf2 := by simp only [List.mem_cons, List.not_mem_nil, or_false, not_or]; exact ⟨D.i2z.symm, D.l2z.symm⟩
  Tf2 := by simp only [List.mem_cons, List.not_mem_nil, or_false, not_or]; exact ⟨D.TOi2, D.l2TO.symm⟩
  sep1_2 := by simp only [List.mem_cons, List.not_mem_nil, or_false, not_or]; exact ⟨D.i12, D.l2i1.symm⟩
  sep2_1 := by simp only [List.mem_cons, List.not_mem_nil, or_false, not_or]; exact ⟨D.i12.symm, D.l1i2.symm⟩
theorem at_K {b : Bool} {h h' : Heap} {it a : Addr} {i : Nat} (d : ItK b h it a i) (k : ∀ o, h.get? it = some o → h'.get? it = some o) : ItK b h' it a i := by
  cases b with
  | true => exact Heap.IsTupleIter.at d k
  | false => exact Heap.IsListIter.at d k
theorem turn_zipK {P : Program} {w : World} {K : PySem.W.Frag} {elts : List Expr} {kk : Nat} {tpos : Pos} {p q : Bool} {a b z TI TO i1 i2 : Addr} (D : ZipApart z TI TO i1 i2 a b) :
    Turn P w K (.Tuple elts kk tpos) (ItzK K p q a b) [z, TI, TO, i1, i2] z (fun i h => IsZip h z TI TO .none ∧ IsTupOf2 h TI (.ref i1) (.ref i2) ∧ (∃ x y, IsTupOf2 h TO x y) ∧ ItK p h i1 a i ∧ ItK q h i2 b i) where
  mem := by simp
  obj := fun i h st c hc => by
    obtain ⟨hz, hTI, ⟨x, y, hTO⟩, h1, h2⟩ := st
    have e' : c = z ∨ c = TI ∨ c = TO ∨ c = i1 ∨ c = i2 := by simpa using hc
    rcases e' with q | q | q | q | q
    · rw [q]; exact ⟨_, hz, fun v q => nomatch q⟩
    · rw [q]; exact ⟨_, hTI, fun v q => nomatch q⟩
    · rw [q]; exact ⟨_, hTO, fun v q => nomatch q⟩
    · rw [q]; exact it_obj h1
    · rw [q]; exact it_obj h2
  keep := fun i h h' st k => by
    obtain ⟨hz, hTI, ⟨x, y, hTO⟩, h1, h2⟩ := st
    exact ⟨k z (by simp) _ hz, k TI (by simp) _ hTI, ⟨x, y, k TO (by simp) _ hTO⟩, at_K h1 fun o q => k i1 (by simp) o q, at_K h2 fun o q => k i2 (by simp) o q⟩
  item := by
    intro X hP hw hK hc i pins s σ H E I hf st hg
    subst hP hw hK
    obtain ⟨hz, hTI, ⟨x0, y0, hTO⟩, h1, h2⟩ := st
    obtain ⟨xs, ys, x, y, hqx, hqy, hx, hy⟩ := hg
    obtain ⟨its, rv, g1, la⟩ := seq_K I hqx
    obtain ⟨its2, rv2, g2, lb⟩ := seq_K I hqy
    obtain ⟨u, hu, ru⟩ := rv.get hx
    obtain ⟨u2, hu2, ru2⟩ := rv2.get hy
    have hzl : z < s.heap.objs.size := Heap.lt_size hz
    have hi1 : i < its.toArray.size := by have := (List.getElem?_eq_some_iff.mp hu).1; simpa using this
    have hi2 : i < its2.toArray.size := by have := (List.getElem?_eq_some_iff.mp hu2).1; simpa using this
    refine wpAny_pyNext_zipD2_item (sepK D) (draws_K (A := X.A.in1) p (show X.A.in1.handled = none from I.ok.hd hc) i1 a D.l1i1 its.toArray) (draws_K (A := X.A.in1) q (show X.A.in1.handled = none from I.ok.hd hc) i2 b D.l2i2 its2.toArray) hz hTI hTO ⟨h1, g1⟩ ⟨h2, g2⟩ hi1 hi2 fun v1 v2 h' tk e1 e2 z' TO' h1' h2' hT hsz hk => ?_
    have e1 : v1 = u := by
      have : its.toArray[i]? = some u := by simpa using hu
      rw [this] at e1; exact (Option.some.inj e1).symm
    have e2 : v2 = u2 := by
      have : its2.toArray[i]? = some u2 := by simpa using hu2
      rw [this] at e2; exact (Option.some.inj e2).symm
    subst e1
    subst e2
    refine ⟨_, rfl, wpAny_letOwnedTupleGo_zip (s := { s with heap := h', toks := tk }) z' fun h'' z'' sb => ?_⟩
    have hT2 : h''.get? s.heap.objs.size = some { cls := .type "tuple", data := .seq #[v1, v2] } := (sb.2 _ (Nat.ne_of_gt hzl)).trans hT
    have new : ObjOk X.prog X.w (upd H s.heap.objs.size (.tup [x, y])) h'' s.heap.objs.size (.tup [x, y]) :=
      ⟨by show 2 ≤ sizeLine; decide, [v1, v2], .cons ru (.cons ru2 .nil), ⟨_, hT2, rfl, _, rfl⟩⟩
    have I1 : Inv X pins σ (upd H s.heap.objs.size (.tup [x, y])) { s with heap := h'', toks := tk } :=
      I.turnedNew (t' := tk) (ch := [z, TI, TO, i1, i2]) (fun c o hb q => (sb.2 c (fun q' => hb (by simp [q']))).trans (hk c o (fun q' => hb (by simp [q'])) (fun q' => hb (by simp [q'])) (fun q' => hb (by simp [q'])) (fun q' => hb (by simp [q'])) q)) hf (Nat.le_refl _) new
    refine ⟨.ref s.heap.objs.size, _, I1, rfl, ⟨_, x, y, rfl, I.hok.fresh (Nat.le_refl _), rfl, fun l hl => by rw [inj_K I hl hqx]; exact hx, fun l hl => by rw [inj_K I hl hqy]; exact hy⟩, ⟨z'', ?_, ⟨v1, v2, ?_⟩, ?_, ?_⟩, fun c hcm => ?_⟩
    · exact (sb.2 _ D.TIz).trans (hk _ _ D.TIz D.TITO D.TIi1 D.TIi2 hTI)
    · exact (sb.2 _ D.TOz).trans TO'
    · exact at_K h1'.1 fun o q => (sb.2 _ D.i1z).trans q
    · exact at_K h2'.1 fun o q => (sb.2 _ D.i2z).trans q
    · have hlt : c < s.heap.objs.size := by
        have e' : c = z ∨ c = TI ∨ c = TO ∨ c = i1 ∨ c = i2 := by simpa using hcm
        rcases e' with q | q | q | q | q
        · rw [q]; exact hzl
        · rw [q]; exact Heap.lt_size hTI
        · rw [q]; exact Heap.lt_size hTO
        · rw [q]; obtain ⟨_, e1, _⟩ := it_obj h1; exact Heap.lt_size e1
        · rw [q]; obtain ⟨_, e2, _⟩ := it_obj h2; exact Heap.lt_size e2
      rw [upd_ne (Nat.ne_of_lt hlt)]
      exact (hf c hcm).1
  done := by
    intro X hP hw hK hc i pins s σ H E I hf st hg
    subst hP hw hK
    obtain ⟨hz, hTI, ⟨x0, y0, hTO⟩, h1, h2⟩ := st
    obtain ⟨xs, ys, hqx, hqy, l1, l2, hend⟩ := hg
    obtain ⟨its, rv, g1, la⟩ := seq_K I hqx
    obtain ⟨its2, rv2, g2, lb⟩ := seq_K I hqy
    have e1 := rv.length
    have e2 := rv2.length
    exact wpAny_pyNext_zipD2_end (sepK D) (draws_K (A := X.A.in1) p (show X.A.in1.handled = none from I.ok.hd hc) i1 a D.l1i1 its.toArray) (draws_K (A := X.A.in1) q (show X.A.in1.handled = none from I.ok.hd hc) i2 b D.l2i2 its2.toArray) hz hTI hTO ⟨h1, g1⟩ ⟨h2, g2⟩ (by simp; omega) (by simp; omega) (by simp; omega) fun h' tk hk => ⟨rfl, I.turnedL (t' := tk) (ch := [z, TI, TO, i1, i2]) (fun c o hb q =>
      hk c o (fun q' => hb (by simp [q'])) (fun q' => hb (by simp [q'])) (fun q' => hb (by simp [q'])) (fun q' => hb (by simp [q'])) q) hf⟩
  self := fun A i s Q E st h => wpAny_pyIter_zip st.1 h
def iZipK (K : PySem.W.Frag) (ta : TA) : TI := fun σ H R => ta σ H fun vs H1 => ∃ p q a b xs ys, vs = [.ref a, .ref b] ∧ SqK K p H1 a xs ∧ SqK K q H1 b ys ∧ R (ItzK K p q a b) H1
theorem new_it {b : Bool} {h : Heap} {it a : Addr} (e : h.get? it = some (obK b a)) : ItK b h it a 0 := by
  cases b with
  | true => exact ⟨_, e, rfl, rfl⟩
  | false => exact ⟨_, e, rfl, rfl⟩
theorem pi_zipK {X : Cx} {e e2 : Expr} {ta : TA} {p pos tpos : Pos} {elts : List Expr} {kk : Nat} (hg : Gl X "zip") (hm : X.mg "zip" = none) (ha : PA X [e, e2] ta)
    (hs : starEach [e, e2] X.env = (false, eval e X.env) :: starEach [e2] X.env := by rfl) (hpl : (backTo pos (starEach [e2] X.env)).any (·.1) = false := by rfl) :
    PI X (.Tuple elts kk tpos) (.Call (.Name "zip" p) [e, e2] [] pos) (iZipK X.K ta) := by
  refine ⟨fun pins s σ H R I h => ?_⟩
  refine Call_ (ld_blt I hg hm PyProof.Rows.boot_zip (PyProof.Rows.callWith_type1 (thn (ha.run pos pins s σ H _ I h) fun us s1 ⟨vs, H1, I1, r1, q1⟩ => ?_) hs hpl))
  obtain ⟨bp, bq, a, b, xs, ys, ex, hqx, hqy, q⟩ := q1
  subst ex
  cases r1 with
  | cons r rr =>
    cases rr with
    | cons r' rr =>
      cases rr
      cases r
      cases r'
      have fresh5 : ∀ c, c ∈ [s1.heap.objs.size + 4, s1.heap.objs.size + 2, s1.heap.objs.size + 3, s1.heap.objs.size, s1.heap.objs.size + 1] → FpOk X pins H1 c := fun c hcm => by
        have e' : c = s1.heap.objs.size + 4 ∨ c = s1.heap.objs.size + 2 ∨ c = s1.heap.objs.size + 3 ∨ c = s1.heap.objs.size ∨ c = s1.heap.objs.size + 1 := by simpa using hcm
        have hle : s1.heap.objs.size ≤ c := by
          rcases e' with z | z | z | z | z
          · rw [z]; exact Nat.le_add_right _ _
          · rw [z]; exact Nat.le_add_right _ _
          · rw [z]; exact Nat.le_add_right _ _
          · rw [z]; exact Nat.le_refl _
          · rw [z]; exact Nat.le_add_right _ _
        exact I1.fpOk hle (I1.hok.fresh hle)
      obtain ⟨its, rv, g1, la⟩ := seq_K I1 hqx
      obtain ⟨its2, rv2, g2, lb⟩ := seq_K I1 hqy
      refine zip_begins2 (begins_K bp a its.toArray) (begins_K bq b its2.toArray) g1 g2 fun h' hz hTI hTO h1 h2 hsz hk => wpAny_pyIter_zip hz ?_
      have I2 : Inv X pins σ H1 { s1 with heap := h' } := I1.kept (t' := s1.toks) hk
      exact ⟨s1.heap.objs.size + 4, [s1.heap.objs.size + 4, s1.heap.objs.size + 2, s1.heap.objs.size + 3, s1.heap.objs.size, s1.heap.objs.size + 1], _, _, H1, rfl, I2, turn_zipK (PySem.W.ktu_apart s1.heap.objs.size a b la lb), ⟨hz, hTI, ⟨_, _, hTO⟩, new_it h1, new_it h2⟩, fresh5, q⟩
section
variable {K : PySem.W.Frag} {W : WX}
theorem SqK_mono {K : PySem.W.Frag} {F F' : Hp} {b : Bool} {a : Addr} {xs : List V} (s : Same F F') (h : SqK K b F a xs) : SqK K b F' a xs := by
  cases b with
  | true => exact SqT_mono s h
  | false => exact s.seq h
theorem Rep.seqK {F : Hp} {v : V} {d : D} {ds : List D} (h : Rep K F v d) (e : seqD d = some ds) : ∃ b a xs, v = .ref a ∧ SqK K b F a xs ∧ Reps K F xs ds := by
  cases h with
  | tup h r => cases e; exact ⟨true, _, _, rfl, h, r⟩
  | lst h r => cases e; exact ⟨false, _, _, rfl, .inl (.inl h), r⟩
  | fl h r => cases e; exact ⟨false, _, _, rfl, h, r⟩
  | _ => cases e
/-- zip of any two, tuples or lists -/
def wZipK (wa : AW) : IW := fun τ q e => wa τ (fun ds τ' => ∃ x y xs ys, ds = [x, y] ∧ seqD x = some xs ∧ seqD y = some ys ∧ q (zipD xs ys) τ') e
theorem di_zipK {t : TA} {w : AW} (h : DA K W t w) : DI K W (iZipK K t) (wZipK w) := by
  refine ⟨fun σ H τ F R q e S hw k x => h.run σ H τ F _ _ e S hw (fun vs ds τ' F' H' t' r ⟨d1, d2, xs, ys, ed, e1, e2, hq⟩ => ?_) x⟩
  subst ed
  obtain ⟨v, v', rfl, r1, r2⟩ := r.two
  obtain ⟨p, a, us, rfl, h1, h2⟩ := r1.seqK e1
  obtain ⟨b, c, ws, rfl, h3, h4⟩ := r2.seqK e2
  refine ⟨p, b, a, c, us, ws, rfl, SqK_mono t'.ok.sub h1, SqK_mono t'.ok.sub h3, k _ _ τ' F' H' t' ?_ hq⟩
  refine ⟨fun i F2 H s s2 hi => ?_, fun F2 H s s2 => ?_, fun i F2 H x H' s s2 hi y => ?_⟩
  · obtain ⟨x, y, e1, e2, _⟩ := zip_get hi
    obtain ⟨v, g1, _⟩ := h2.getD e1
    obtain ⟨u, g2, _⟩ := h4.getD e2
    exact ⟨us, ws, v, u, SqK_mono (s.trans s2) h1, SqK_mono (s.trans s2) h3, g1, g2⟩
  · have l : (zipD xs ys).length = min us.length ws.length := by unfold zipD; rw [List.length_zipWith, h2.length, h4.length]
    exact ⟨us, ws, SqK_mono (s.trans s2) h1, SqK_mono (s.trans s2) h3, by omega, by omega, by omega⟩
  · obtain ⟨T, u, v, rfl, hT, rfl, e1, e2⟩ := y
    have e1 := e1 us (SqK_mono (s.trans s2) h1)
    have e2 := e2 ws (SqK_mono (s.trans s2) h3)
    obtain ⟨a, b, f1, f2, f3⟩ := zip_get hi
    obtain ⟨a', g1, g2⟩ := (h2.mono s).get e1
    obtain ⟨b', g3, g4⟩ := (h4.mono s).get e2
    rw [f1] at g1; cases g1
    rw [f2] at g3; cases g3
    obtain ⟨x1, x2⟩ := new_ext (o := .tup [u, v]) s2 hT
    have sm := new_same (o := .tup [u, v]) s2 hT
    exact ⟨_, _, f3, x1, x2, .tup (.inl (.inl upd_same)) (.cons (g2.mono sm) (.cons (g4.mono sm) .nil))⟩
end
end L3

/-! ## list(range(..)), range down, max, min and sum of a list -/
namespace L3
open PySem PySem.Spec PyProof.Rows L2
variable [TB : TabT]
section
variable {K : PySem.W.Frag} {W : WX}
theorem rgV_eq (a b : Int) : rgV a b = (List.range (b - a).toNat).map fun i => V.int (a + (i : Nat)) := rfl
theorem rg_reps {F : Hp} {a b : Int} : Reps K F (rgV a b) (rangeD a (b - a).toNat) := by
  unfold rgV rangeD
  induction (List.range (b - a).toNat) with
  | nil => exact .nil
  | cons x r ih => exact .cons (.int _) ih
def wListRg1 (we : EW) : EW := fun τ q e => we τ (fun d τ' => ∃ n, d = .int n ∧ 0 ≤ n ∧ n ≤ 1000 ∧ q (.lst (rangeD 0 n.toNat)) τ') e
theorem de_listRg1 {t : TE} {w : EW} (h : DE K W t w) : DE K W (tLstRg (tRg1 t)) (wListRg1 w) := by
  refine ⟨fun σ H τ F Q q e S hw k x => h.run σ H τ F _ _ e S hw (fun v d τ' F' H' t' r ⟨n, ed, n0, n1, hq⟩ => ?_) x⟩
  subst ed
  refine ⟨n, r.int_of, ⟨by omega, by omega, by omega, by omega, by omega⟩, fun p hp => ?_⟩
  obtain ⟨x1, x2⟩ := new_ext (o := .lst (rgV 0 n)) t'.ok.sub hp
  refine k _ (.lst (rangeD 0 n.toNat)) τ' _ _ (t'.trans (.small t'.ok x1 x2)) (.lst upd_same ?_) hq
  have := rg_reps (K := K) (F := upd F' p (.lst (rgV 0 n))) (a := 0) (b := n)
  rw [Int.sub_zero] at this
  exact this
def wListRg2 (wa wb : EW) : EW := fun τ q e => wa τ (fun d1 τ1 => wb τ1 (fun d2 τ2 => ∃ i j, d1 = .int i ∧ d2 = .int j ∧ -1000000 ≤ i ∧ i ≤ 1000000 ∧ -1000000 ≤ j ∧ j ≤ 1000000 ∧ q (.lst (rangeD i (j - i).toNat)) τ2) e) e
theorem de_listRg2 {ta tb : TE} {wa wb : EW} (ha : DE K W ta wa) (hb : DE K W tb wb) : DE K W (tLstRg (tRg2 ta tb)) (wListRg2 wa wb) := by
  refine ⟨fun σ H τ F Q q e S hw k x => ha.run σ H τ F _ _ e S hw (fun v1 d1 τ1 F1 H1 t1 r1 h1 => ?_) x⟩
  refine hb.run σ H1 τ1 F1 _ _ e t1.ok h1 (fun v2 d2 τ2 F2 H2 t2 r2 h2 => ?_) (x.of t1)
  obtain ⟨i, j, rfl, rfl, i0, i1, j0, j1, hq⟩ := h2
  refine ⟨i, j, (r1.mono t2.ext.f).int_of, r2.int_of, ⟨by omega, by omega, by omega, by omega, by omega⟩, fun p hp => ?_⟩
  obtain ⟨x1, x2⟩ := new_ext (o := .lst (rgV i j)) t2.ok.sub hp
  exact k _ (.lst (rangeD i (j - i).toNat)) τ2 _ _ ((t1.trans t2).trans (.small t2.ok x1 x2)) (.lst upd_same rg_reps) hq
/-- i, i - 1, .., n of them -/
def downD (i : Int) (n : Nat) : List D := (List.range n).map fun k => .int (i - (k : Nat))
theorem downD_length {i : Int} {n : Nat} : (downD i n).length = n := by unfold downD; rw [List.length_map, List.length_range]
theorem downD_get {i : Int} {n k : Nat} (h : k < n) : (downD i n)[k]? = some (.int (i - (k : Nat))) := by
  unfold downD
  rw [List.getElem?_map, List.getElem?_range h]
  rfl
def wRngDown (wa : AW) : IW := fun τ q e => wa τ (fun ds τ' => ∃ i j : Int, ds = [.int i, .int j, .int (-1)] ∧ (-(2 ^ 62) ≤ i ∧ i < 2 ^ 62 ∧ -(2 ^ 62) ≤ j ∧ j < 2 ^ 62) ∧ q (downD i (i - j).toNat) τ') e
theorem Reps.three {F : Hp} {xs : List V} {d d' d'' : D} (h : Reps K F xs [d, d', d'']) : ∃ v v' v'', xs = [v, v', v''] ∧ Rep K F v d ∧ Rep K F v' d' ∧ Rep K F v'' d'' := by
  cases h with
  | cons h t => obtain ⟨u, u', rfl, r, r'⟩ := Reps.two t; exact ⟨_, _, _, rfl, h, r, r'⟩
theorem di_rngDown {t : TA} {w : AW} (h : DA K W t w) : DI K W (iRng3 t) (wRngDown w) := by
  refine ⟨fun σ H τ F R q e S hw k x => h.run σ H τ F _ _ e S hw (fun vs ds τ' F' H' t' r ⟨i, j, ej, ⟨b1, b2, b3, b4⟩, hq⟩ => ?_) x⟩
  subst ej
  obtain ⟨v, v', v'', rfl, r1, r2, r3⟩ := r.three
  refine ⟨i, j, -1, (i - j).toNat, by rw [r1.int_of, r2.int_of, r3.int_of], RgC.neg b1 b2 b3 b4, k _ _ τ' F' H' t' ?_ hq⟩
  refine ⟨fun i2 F2 H s s2 hi => ?_, fun F2 H s s2 => ?_, fun i2 F2 H x H' s s2 hi y => ?_⟩
  · rw [downD_length] at hi; exact hi
  · rw [downD_length]; exact Nat.le_refl _
  · rw [downD_length] at hi
    obtain ⟨rfl, rfl⟩ := y
    refine ⟨_, F2, downD_get hi, .refl _ _ _, s2, ?_⟩
    have : i + (i2 : Nat) * (-1 : Int) = i - (i2 : Nat) := by omega
    rw [this]
    exact .int _
theorem ints_of {F : Hp} {v : V} {d : D} {ns : List Int} (r : Rep K F v d) (e : d = .lst (ns.map D.int) ∨ d = .fl (ns.map D.int)) : ∃ a, v = .ref a ∧ SqL K F a (ns.map V.int) := by
  rcases e with rfl | rfl
  · cases r with
    | lst h r2 => have := Reps.intsV r2; subst this; exact ⟨_, rfl, .inl (.inl h)⟩
  · cases r with
    | fl h r2 => have := Reps.intsV r2; subst this; exact ⟨_, rfl, h⟩
def gSum : List D → (D → Prop) → Prop := fun ds q => ∃ (d : D) (ns : List Int), ds = [d] ∧ (d = .lst (ns.map D.int) ∨ d = .fl (ns.map D.int)) ∧ q (.int ns.sum)
theorem o_sum : OpN K (rSum K) gSum := by
  rintro F H xs ds q Q s r ⟨d, ns, rfl, e, hq⟩ k
  obtain ⟨v, rfl, r1⟩ := r.one
  obtain ⟨a, rfl, h⟩ := ints_of r1 e
  exact ⟨a, ns, rfl, s.seq h, k _ _ F H (.refl _ _ _) s (.int _) hq⟩
def gMaxL : List D → (D → Prop) → Prop := fun ds q => ∃ (d : D) (ns : List Int), ds = [d] ∧ (d = .lst (ns.map D.int) ∨ d = .fl (ns.map D.int)) ∧ 0 < ns.length ∧ ∀ m, m ∈ ns → (∀ y, y ∈ ns → y ≤ m) → q (.int m)
theorem o_maxL : OpN K (rMax K) gMaxL := by
  rintro F H xs ds q Q s r ⟨d, ns, rfl, e, hl, hq⟩ k
  obtain ⟨v, rfl, r1⟩ := r.one
  obtain ⟨a, rfl, h⟩ := ints_of r1 e
  exact ⟨a, ns, rfl, s.seq h, hl, fun m h1 h2 => k _ _ F H (.refl _ _ _) s (.int _) (hq m h1 h2)⟩
def gMinL : List D → (D → Prop) → Prop := fun ds q => ∃ (d : D) (ns : List Int), ds = [d] ∧ (d = .lst (ns.map D.int) ∨ d = .fl (ns.map D.int)) ∧ 0 < ns.length ∧ ∀ m, m ∈ ns → (∀ y, y ∈ ns → m ≤ y) → q (.int m)
theorem o_minL : OpN K (rMin K) gMinL := by
  rintro F H xs ds q Q s r ⟨d, ns, rfl, e, hl, hq⟩ k
  obtain ⟨v, rfl, r1⟩ := r.one
  obtain ⟨a, rfl, h⟩ := ints_of r1 e
  exact ⟨a, ns, rfl, s.seq h, hl, fun m h1 h2 => k _ _ F H (.refl _ _ _) s (.int _) (hq m h1 h2)⟩
/-- one way or the other -/
def wEor (a b : EW) : EW := fun τ q e => a τ q e ∨ b τ q e
theorem de_eor {t : TE} {a b : EW} (ha : DE K W t a) (hb : DE K W t b) : DE K W t (wEor a b) :=
  ⟨fun σ H τ F Q q e S h k x => h.elim (fun h => ha.1 σ H τ F Q q e S h k x) (fun h => hb.1 σ H τ F Q q e S h k x)⟩
end
end L3

set_option Elab.async false
set_option linter.all false
set_option maxRecDepth 100000
set_option maxHeartbeats 4000000
namespace K04
open PySem PySem.Spec PyProof.Rows L2 L3
def inClass (st : Stmt) (j : Nat) : Stmt := match st with | .ClassDef (body := b) .. => b.getD j (.Pass ⟨0, 0, 0, 0⟩) | _ => .Pass ⟨0, 0, 0, 0⟩
def topS (i : Nat) : Stmt := PySem.Challenge.pw_twotides_k04_whole_equal_webs_and_books.main.body.getD i (.Pass ⟨0, 0, 0, 0⟩)
section
variable [TB : TabT] {K : PySem.W.Frag}
/-- a pair of integers, the second above 0, neither great -/
def PrB (k : Nat) (d : D) : Prop := ∃ t b : Int, d = .tup [.int t, .int b] ∧ 0 < b ∧ t.natAbs < 2 ^ k ∧ b.natAbs < 2 ^ k
/-- a fraction in lowest terms -/
def nf (t b : Int) : D := .tup [.int (t / ((Nat.gcd t.natAbs b.natAbs : Nat) : Int)), .int (b / ((Nat.gcd t.natAbs b.natAbs : Nat) : Int))]
theorem gcd_w {t b : Int} (h0 : 0 < b) (h : b.natAbs < 2 ^ 900) (x : Int) : CDivW x (Nat.gcd t.natAbs b.natAbs : Nat) := by
  have hg : 0 < Nat.gcd t.natAbs b.natAbs := Nat.gcd_pos_of_pos_right _ (by omega)
  have gb : Nat.gcd t.natAbs b.natAbs ≤ b.natAbs := Nat.le_of_dvd (by omega) (Nat.gcd_dvd_right _ _)
  exact wide_div (b := 900) (by omega) (by rw [Int.natAbs_natCast]; omega) (by decide) (by decide)
theorem pow_le {a b : Nat} (h : a ≤ b) : (2 : Nat) ^ a ≤ 2 ^ b := Nat.pow_le_pow_right (by decide) h
/-- its integers are below 2 ^ k -/
def SmI (k : Nat) (x y : Int) : Prop := x.natAbs < 2 ^ k ∧ y.natAbs < 2 ^ k
theorem mul_abs {i j : Int} {a b : Nat} (h1 : i.natAbs < 2 ^ a) (h2 : j.natAbs < 2 ^ b) : (i * j).natAbs < 2 ^ (a + b) := wide_lt h1 h2
theorem cmul_w {i j : Int} {a b : Nat} (h1 : i.natAbs < 2 ^ a) (h2 : j.natAbs < 2 ^ b) (ha : 0 < a) (hb : 0 < b) (h : a + b ≤ 1000000) : CMulA i j := .inr (wide_mul h1 h2 ha hb h)
theorem pos_right {a b : Int} (ha : 0 < a) (h : 0 < a * b) : 0 < b := by
  cases Int.lt_or_le 0 b with
  | inl z => exact z
  | inr z =>
    have := Int.mul_le_mul_of_nonneg_left z (Int.le_of_lt ha)
    omega
theorem nf_eq {t b t' b' : Int} (hb : 0 < b) (hb' : 0 < b') (h : t * b' = t' * b) : nf t b = nf t' b' := by
  have z : b.natAbs ≠ 0 := by omega
  have z' : b'.natAbs ≠ 0 := by omega
  have e : Rat.normalize t b.natAbs z = Rat.normalize t' b'.natAbs z' := by
    rw [Rat.normalize_eq_iff]
    have h1 : ((b.natAbs : Nat) : Int) = b := by omega
    have h2 : ((b'.natAbs : Nat) : Int) = b' := by omega
    rw [h1, h2]
    exact h
  rw [Rat.normalize_eq, Rat.normalize_eq] at e
  have e1 := congrArg Rat.num e
  have e2 := congrArg Rat.den e
  have e1 : t / ((Nat.gcd t.natAbs b.natAbs : Nat) : Int) = t' / ((Nat.gcd t'.natAbs b'.natAbs : Nat) : Int) := e1
  have e2 : b.natAbs / Nat.gcd t.natAbs b.natAbs = b'.natAbs / Nat.gcd t'.natAbs b'.natAbs := e2
  have e3 : b / ((Nat.gcd t.natAbs b.natAbs : Nat) : Int) = b' / ((Nat.gcd t'.natAbs b'.natAbs : Nat) : Int) := by
    have h1 : b = ((b.natAbs : Nat) : Int) := by omega
    have h2 : b' = ((b'.natAbs : Nat) : Int) := by omega
    rw [h1, h2, ← Int.natCast_ediv, ← Int.natCast_ediv]
    simpa using congrArg (Nat.cast : Nat → Int) e2
  unfold nf
  rw [e1, e3]
theorem nf_self {t b : Int} (h : Nat.gcd t.natAbs b.natAbs = 1) : nf t b = .tup [.int t, .int b] := by
  unfold nf
  rw [h]
  simp
theorem nf_parts {t b : Int} (hb : 0 < b) : ∃ t' b', nf t b = .tup [.int t', .int b'] ∧ 0 < b' ∧ t' * b = t * b' ∧ t'.natAbs ≤ t.natAbs ∧ b'.natAbs ≤ b.natAbs ∧ Nat.gcd t'.natAbs b'.natAbs = 1 := by
  have hg : 0 < Nat.gcd t.natAbs b.natAbs := Nat.gcd_pos_of_pos_right _ (by omega)
  have hg' : ((Nat.gcd t.natAbs b.natAbs : Nat) : Int) ≠ 0 := by omega
  obtain ⟨x, hx⟩ : ((Nat.gcd t.natAbs b.natAbs : Nat) : Int) ∣ t := Int.ofNat_dvd_left.mpr (Nat.gcd_dvd_left _ _)
  obtain ⟨y, hy⟩ : ((Nat.gcd t.natAbs b.natAbs : Nat) : Int) ∣ b := Int.ofNat_dvd_left.mpr (Nat.gcd_dvd_right _ _)
  have ex : t / ((Nat.gcd t.natAbs b.natAbs : Nat) : Int) = x := Int.ediv_eq_of_eq_mul_right hg' hx
  have ey : b / ((Nat.gcd t.natAbs b.natAbs : Nat) : Int) = y := Int.ediv_eq_of_eq_mul_right hg' hy
  have ax : t.natAbs = Nat.gcd t.natAbs b.natAbs * x.natAbs := by
    have := congrArg Int.natAbs hx
    rwa [Int.natAbs_mul, Int.natAbs_natCast] at this
  have ay : b.natAbs = Nat.gcd t.natAbs b.natAbs * y.natAbs := by
    have := congrArg Int.natAbs hy
    rwa [Int.natAbs_mul, Int.natAbs_natCast] at this
  refine ⟨x, y, by unfold nf; rw [ex, ey], ?_, ?_, ?_, ?_, ?_⟩
  · rw [hy] at hb
    exact pos_right (by omega) hb
  · generalize Nat.gcd t.natAbs b.natAbs = g at hx hy
    rw [hx, hy]
    simp only [Int.mul_assoc, Int.mul_comm, Int.mul_left_comm]
  · rw [ax]; exact Nat.le_mul_of_pos_left _ hg
  · rw [ay]; exact Nat.le_mul_of_pos_left _ hg
  · have h := Nat.gcd_div (Nat.gcd_dvd_left t.natAbs b.natAbs) (Nat.gcd_dvd_right t.natAbs b.natAbs)
    rw [Nat.div_self hg] at h
    have e1 : t.natAbs / Nat.gcd t.natAbs b.natAbs = x.natAbs := Nat.div_eq_of_eq_mul_right hg ax
    have e2 : b.natAbs / Nat.gcd t.natAbs b.natAbs = y.natAbs := Nat.div_eq_of_eq_mul_right hg ay
    rwa [e1, e2] at h
/-- a pair of integers is not great -/
def SmB (k : Nat) : D → Prop | .tup [.int x, .int y] => SmI k x y | _ => True
/-- plain data, n deep at most -/
def ShD : Nat → D → Prop
  | 0, _ => False
  | _ + 1, .non => True
  | _ + 1, .bl _ => True
  | _ + 1, .int _ => True
  | n + 1, .tup ds => ∀ d ∈ ds, ShD n d
  | n + 1, .lst ds => ∀ d ∈ ds, ShD n d
  | _ + 1, _ => False
theorem shDs_py {n : Nat} (ih : ∀ d, ShD n d → ∃ p, toPy d = some p ∧ p.canLay0 = true ∧ p.depth ≤ n) : ∀ {ds : List D}, (∀ d ∈ ds, ShD n d) → ∃ ps, toPys ds = some ps ∧ PyData.canLayAll0 ps = true ∧ PyData.depthAll ps ≤ n ∧ ps = ds.map pyD
  | [], _ => ⟨[], rfl, rfl, Nat.zero_le _, rfl⟩
  | d :: ds, h => by
    obtain ⟨p, e1, c1, d1⟩ := ih d (h d (by simp))
    obtain ⟨ps, e2, c2, d2, e3⟩ := shDs_py ih (ds := ds) fun x hx => h x (by simp [hx])
    refine ⟨p :: ps, ?_, ?_, ?_, ?_⟩
    · show (toPy d).bind _ = _
      rw [e1, e2]
      rfl
    · show (PyData.canLay0 p && PyData.canLayAll0 ps) = true
      rw [c1, c2]
      rfl
    · show max (PyData.depth p) (PyData.depthAll ps) ≤ n
      omega
    · rw [List.map_cons, e3]
      congr 1
      unfold pyD
      rw [e1]
      rfl
theorem shD_py : ∀ {n : Nat} {d : D}, ShD n d → ∃ p, toPy d = some p ∧ p.canLay0 = true ∧ p.depth ≤ n
  | 0, _, h => h.elim
  | n + 1, .non, _ => ⟨_, rfl, rfl, Nat.zero_le _⟩
  | n + 1, .bl _, _ => ⟨_, rfl, rfl, Nat.zero_le _⟩
  | n + 1, .int _, _ => ⟨_, rfl, rfl, Nat.zero_le _⟩
  | n + 1, .tup ds, h => by
    obtain ⟨ps, e, c, d, _⟩ := shDs_py (fun _ => shD_py) (ds := ds) h
    refine ⟨.tuple ps, ?_, c, Nat.succ_le_succ d⟩
    show (toPys ds).map PyData.tuple = _
    rw [e]
    rfl
  | n + 1, .lst ds, h => by
    obtain ⟨ps, e, c, d, _⟩ := shDs_py (fun _ => shD_py) (ds := ds) h
    refine ⟨.list ps, ?_, c, Nat.succ_le_succ d⟩
    show (toPys ds).map PyData.list = _
    rw [e]
    rfl
  | n + 1, .str _, h => h.elim
  | n + 1, .fl _, h => h.elim
  | n + 1, .ty _, h => h.elim
  | n + 1, .oth _, h => h.elim
  | n + 1, .ins _ _, h => h.elim
theorem shD_sh {n : Nat} {d : D} (h : ShD n d) (hn : n ≤ 60) : toPy d = some (pyD d) ∧ SeqAt.shaped (pyD d) = true := by
  obtain ⟨p, e, c, dp⟩ := shD_py h
  have e2 : pyD d = p := by unfold pyD; rw [e]; rfl
  rw [e2]
  refine ⟨e, ?_⟩
  unfold SeqAt.shaped
  rw [c, decide_eq_true (show p.depth ≤ 64 by omega)]
  rfl
def eqB (x y : D) : Bool := PyData.eqv (pyD x) (pyD y)
def inB (x : D) (ys : List D) : Bool := ys.any fun y => PyData.eqv (pyD y) (pyD x)
theorem gEqD_of {n m : Nat} {x y : D} {q : D → Prop} (h : ShD n x) (g : ShD m y) (hn : n ≤ 60) (hm : m ≤ 60) (hq : q (.bl (eqB x y))) : gEqD x y q := by
  obtain ⟨a1, a2⟩ := shD_sh h hn
  obtain ⟨b1, b2⟩ := shD_sh g hm
  exact ⟨_, _, a1, b1, a2, b2, hq⟩
theorem gInT_of {n m : Nat} {x : D} {ys : List D} {q : D → Prop} (h : ShD n x) (g : ShD m (.tup ys)) (hn : n ≤ 60) (hm : m ≤ 60) (hq : q (.bl (inB x ys))) : gInT x (.tup ys) q := by
  obtain ⟨a1, a2⟩ := shD_sh h hn
  obtain ⟨b1, b2⟩ := shD_sh g hm
  cases m with
  | zero => exact g.elim
  | succ m =>
    obtain ⟨ps, e, c, d, e3⟩ := shDs_py (fun _ => shD_py) (ds := ys) g
    have e4 : pyD (.tup ys) = .tuple ps := by
      unfold pyD
      show ((toPys ys).map PyData.tuple).getD .none = _
      rw [e]
      rfl
    rw [e4] at b1 b2
    refine ⟨_, ps, a1, b1, a2, b2, ?_⟩
    have : (ps.any fun z => PyData.eqv z (pyD x)) = inB x ys := by
      unfold inB
      rw [e3, List.any_map]
      rfl
    rw [this]
    exact hq
/-- going along places: the first that is not right -/
def firstIx (P : Nat → Bool) : Nat → Nat → Option Nat
  | _, 0 => none
  | k, n + 1 => if P k = true then firstIx P (k + 1) n else some k
theorem firstIx_ok {P : Nat → Bool} {i n : Nat} (hi : i < n) (h : P i = true) : firstIx P i (n - i) = firstIx P (i + 1) (n - (i + 1)) := by
  have : n - i = (n - (i + 1)) + 1 := by omega
  rw [this, firstIx, if_pos h]
theorem firstIx_no {P : Nat → Bool} {i n : Nat} (hi : i < n) (h : P i = false) : firstIx P i (n - i) = some i := by
  have : n - i = (n - (i + 1)) + 1 := by omega
  rw [this, firstIx, if_neg (by rw [h]; simp)]
theorem pow6 : (10 : Int) ^ Int.toNat 6 = 1000000 := by decide +kernel
end

structure CT where
  C_Book : Addr
  C_Web : Addr
  C_TidesError : Addr
  C_BadBook : Addr
  C_BadWeb : Addr
structure Txt (K : PySem.W.Frag) (mg : Str → Option Value) where
  f_is_integer : Addr
  fd_is_integer : FuncData
  F_is_integer : Fun K "is_integer" "is_integer" (topS 2) f_is_integer fd_is_integer
  b_is_integer : Binds K fd_is_integer ["thing"] []
  g_is_integer : mg "is_integer" = some (.ref f_is_integer)
  k_is_integer : PySem.W.keepIn K (.ref f_is_integer) = true
  f_is_between : Addr
  fd_is_between : FuncData
  F_is_between : Fun K "is_between" "is_between" (topS 3) f_is_between fd_is_between
  b_is_between : Binds K fd_is_between ["low", "high", "thing"] []
  g_is_between : mg "is_between" = some (.ref f_is_between)
  k_is_between : PySem.W.keepIn K (.ref f_is_between) = true
  f_is_tuple_of : Addr
  fd_is_tuple_of : FuncData
  F_is_tuple_of : Fun K "is_tuple_of" "is_tuple_of" (topS 4) f_is_tuple_of fd_is_tuple_of
  b_is_tuple_of : Binds K fd_is_tuple_of ["low", "high", "thing"] []
  g_is_tuple_of : mg "is_tuple_of" = some (.ref f_is_tuple_of)
  k_is_tuple_of : PySem.W.keepIn K (.ref f_is_tuple_of) = true
  f_is_fraction : Addr
  fd_is_fraction : FuncData
  F_is_fraction : Fun K "is_fraction" "is_fraction" (topS 5) f_is_fraction fd_is_fraction
  b_is_fraction : Binds K fd_is_fraction ["thing"] []
  g_is_fraction : mg "is_fraction" = some (.ref f_is_fraction)
  k_is_fraction : PySem.W.keepIn K (.ref f_is_fraction) = true
  f_at_most : Addr
  fd_at_most : FuncData
  F_at_most : Fun K "at_most" "at_most" (topS 7) f_at_most fd_at_most
  b_at_most : Binds K fd_at_most ["one", "other"] []
  g_at_most : mg "at_most" = some (.ref f_at_most)
  k_at_most : PySem.W.keepIn K (.ref f_at_most) = true
  f_is_threshold : Addr
  fd_is_threshold : FuncData
  F_is_threshold : Fun K "is_threshold" "is_threshold" (topS 17) f_is_threshold fd_is_threshold
  b_is_threshold : Binds K fd_is_threshold ["thing"] []
  g_is_threshold : mg "is_threshold" = some (.ref f_is_threshold)
  k_is_threshold : PySem.W.keepIn K (.ref f_is_threshold) = true
  f_is_list : Addr
  fd_is_list : FuncData
  F_is_list : Fun K "is_list" "is_list" (topS 18) f_is_list fd_is_list
  b_is_list : Binds K fd_is_list ["thing"] []
  g_is_list : mg "is_list" = some (.ref f_is_list)
  k_is_list : PySem.W.keepIn K (.ref f_is_list) = true
  f_ascends : Addr
  fd_ascends : FuncData
  F_ascends : Fun K "ascends" "ascends" (topS 6) f_ascends fd_ascends
  b_ascends : Binds K fd_ascends ["things"] []
  g_ascends : mg "ascends" = some (.ref f_ascends)
  k_ascends : PySem.W.keepIn K (.ref f_ascends) = true
  f_is_width : Addr
  fd_is_width : FuncData
  F_is_width : Fun K "is_width" "is_width" (topS 19) f_is_width fd_is_width
  b_is_width : Binds K fd_is_width ["thing"] []
  g_is_width : mg "is_width" = some (.ref f_is_width)
  k_is_width : PySem.W.keepIn K (.ref f_is_width) = true
  f_is_widths : Addr
  fd_is_widths : FuncData
  F_is_widths : Fun K "is_widths" "is_widths" (topS 23) f_is_widths fd_is_widths
  b_is_widths : Binds K fd_is_widths ["thing"] []
  g_is_widths : mg "is_widths" = some (.ref f_is_widths)
  k_is_widths : PySem.W.keepIn K (.ref f_is_widths) = true
  f_is_pipe : Addr
  fd_is_pipe : FuncData
  F_is_pipe : Fun K "is_pipe" "is_pipe" (topS 24) f_is_pipe fd_is_pipe
  b_is_pipe : Binds K fd_is_pipe ["vessels", "thing"] []
  g_is_pipe : mg "is_pipe" = some (.ref f_is_pipe)
  k_is_pipe : PySem.W.keepIn K (.ref f_is_pipe) = true
  f_Web__init__ : Addr
  fd_Web__init__ : FuncData
  F_Web__init__ : Fun K "__init__" "Web.__init__" (inClass (topS 25) 0) f_Web__init__ fd_Web__init__
  b_Web__init__ : Binds K fd_Web__init__ ["self", "widths", "pipes"] []
  f_Web__eq__ : Addr
  fd_Web__eq__ : FuncData
  F_Web__eq__ : Fun K "__eq__" "Web.__eq__" (inClass (topS 25) 1) f_Web__eq__ fd_Web__eq__
  b_Web__eq__ : Binds K fd_Web__eq__ ["self", "other"] []
  f_is_sort : Addr
  fd_is_sort : FuncData
  F_is_sort : Fun K "is_sort" "is_sort" (topS 30) f_is_sort fd_is_sort
  b_is_sort : Binds K fd_is_sort ["thing"] []
  g_is_sort : mg "is_sort" = some (.ref f_is_sort)
  k_is_sort : PySem.W.keepIn K (.ref f_is_sort) = true
  f_is_sort_tuple : Addr
  fd_is_sort_tuple : FuncData
  F_is_sort_tuple : Fun K "is_sort_tuple" "is_sort_tuple" (topS 31) f_is_sort_tuple fd_is_sort_tuple
  b_is_sort_tuple : Binds K fd_is_sort_tuple ["thing"] []
  g_is_sort_tuple : mg "is_sort_tuple" = some (.ref f_is_sort_tuple)
  k_is_sort_tuple : PySem.W.keepIn K (.ref f_is_sort_tuple) = true
  f_is_join : Addr
  fd_is_join : FuncData
  F_is_join : Fun K "is_join" "is_join" (topS 32) f_is_join fd_is_join
  b_is_join : Binds K fd_is_join ["sorts", "thing"] []
  g_is_join : mg "is_join" = some (.ref f_is_join)
  k_is_join : PySem.W.keepIn K (.ref f_is_join) = true
  f_is_kind : Addr
  fd_is_kind : FuncData
  F_is_kind : Fun K "is_kind" "is_kind" (topS 33) f_is_kind fd_is_kind
  b_is_kind : Binds K fd_is_kind ["sorts", "thing"] []
  g_is_kind : mg "is_kind" = some (.ref f_is_kind)
  k_is_kind : PySem.W.keepIn K (.ref f_is_kind) = true
  f_Book__init__ : Addr
  fd_Book__init__ : FuncData
  F_Book__init__ : Fun K "__init__" "Book.__init__" (inClass (topS 34) 0) f_Book__init__ fd_Book__init__
  b_Book__init__ : Binds K fd_Book__init__ ["self", "sorts", "kinds"] []
  f_Book__eq__ : Addr
  fd_Book__eq__ : FuncData
  F_Book__eq__ : Fun K "__eq__" "Book.__eq__" (inClass (topS 34) 1) f_Book__eq__ fd_Book__eq__
  b_Book__eq__ : Binds K fd_Book__eq__ ["self", "other"] []
  f__law_source : Addr
  fd__law_source : FuncData
  F__law_source : Fun K "_law_source" "_law_source" (topS 36) f__law_source fd__law_source
  b__law_source : Binds K fd__law_source ["script"] []
  g__law_source : mg "_law_source" = some (.ref f__law_source)
  k__law_source : PySem.W.keepIn K (.ref f__law_source) = true
  f__law_mixed : Addr
  fd__law_mixed : FuncData
  F__law_mixed : Fun K "_law_mixed" "_law_mixed" (topS 37) f__law_mixed fd__law_mixed
  b__law_mixed : Binds K fd__law_mixed ["number", "turn"] []
  g__law_mixed : mg "_law_mixed" = some (.ref f__law_mixed)
  k__law_mixed : PySem.W.keepIn K (.ref f__law_mixed) = true
  f__law_draw : Addr
  fd__law_draw : FuncData
  F__law_draw : Fun K "_law_draw" "_law_draw" (topS 38) f__law_draw fd__law_draw
  b__law_draw : Binds K fd__law_draw ["source", "many"] []
  g__law_draw : mg "_law_draw" = some (.ref f__law_draw)
  k__law_draw : PySem.W.keepIn K (.ref f__law_draw) = true
  f__law_pick : Addr
  fd__law_pick : FuncData
  F__law_pick : Fun K "_law_pick" "_law_pick" (topS 39) f__law_pick fd__law_pick
  b__law_pick : Binds K fd__law_pick ["source", "row"] []
  g__law_pick : mg "_law_pick" = some (.ref f__law_pick)
  k__law_pick : PySem.W.keepIn K (.ref f__law_pick) = true
  f__law_divisor : Addr
  fd__law_divisor : FuncData
  F__law_divisor : Fun K "_law_divisor" "_law_divisor" (topS 40) f__law_divisor fd__law_divisor
  b__law_divisor : Binds K fd__law_divisor ["one", "other"] []
  g__law_divisor : mg "_law_divisor" = some (.ref f__law_divisor)
  k__law_divisor : PySem.W.keepIn K (.ref f__law_divisor) = true
  f__law_made : Addr
  fd__law_made : FuncData
  F__law_made : Fun K "_law_made" "_law_made" (topS 41) f__law_made fd__law_made
  b__law_made : Binds K fd__law_made ["top", "bottom"] []
  g__law_made : mg "_law_made" = some (.ref f__law_made)
  k__law_made : PySem.W.keepIn K (.ref f__law_made) = true
  f__law_same : Addr
  fd__law_same : FuncData
  F__law_same : Fun K "_law_same" "_law_same" (topS 42) f__law_same fd__law_same
  b__law_same : Binds K fd__law_same ["actual", "expected"] []
  g__law_same : mg "_law_same" = some (.ref f__law_same)
  k__law_same : PySem.W.keepIn K (.ref f__law_same) = true
  f__law_in_order : Addr
  fd__law_in_order : FuncData
  F__law_in_order : Fun K "_law_in_order" "_law_in_order" (topS 43) f__law_in_order fd__law_in_order
  b__law_in_order : Binds K fd__law_in_order ["steps"] []
  g__law_in_order : mg "_law_in_order" = some (.ref f__law_in_order)
  k__law_in_order : PySem.W.keepIn K (.ref f__law_in_order) = true
  f__law_steps : Addr
  fd__law_steps : FuncData
  F__law_steps : Fun K "_law_steps" "_law_steps" (topS 44) f__law_steps fd__law_steps
  b__law_steps : Binds K fd__law_steps ["source", "most", "wide"] []
  g__law_steps : mg "_law_steps" = some (.ref f__law_steps)
  k__law_steps : PySem.W.keepIn K (.ref f__law_steps) = true
  f__law_widths : Addr
  fd__law_widths : FuncData
  F__law_widths : Fun K "_law_widths" "_law_widths" (topS 45) f__law_widths fd__law_widths
  b__law_widths : Binds K fd__law_widths ["source", "many", "seas"] []
  g__law_widths : mg "_law_widths" = some (.ref f__law_widths)
  k__law_widths : PySem.W.keepIn K (.ref f__law_widths) = true
  f__law_pipe : Addr
  fd__law_pipe : FuncData
  F__law_pipe : Fun K "_law_pipe" "_law_pipe" (topS 46) f__law_pipe fd__law_pipe
  b__law_pipe : Binds K fd__law_pipe ["source", "vessels", "most", "wide"] []
  g__law_pipe : mg "_law_pipe" = some (.ref f__law_pipe)
  k__law_pipe : PySem.W.keepIn K (.ref f__law_pipe) = true
  f__law_pipes : Addr
  fd__law_pipes : FuncData
  F__law_pipes : Fun K "_law_pipes" "_law_pipes" (topS 47) f__law_pipes fd__law_pipes
  b__law_pipes : Binds K fd__law_pipes ["source", "vessels", "many", "most", "wide"] []
  g__law_pipes : mg "_law_pipes" = some (.ref f__law_pipes)
  k__law_pipes : PySem.W.keepIn K (.ref f__law_pipes) = true
  f__law_with : Addr
  fd__law_with : FuncData
  F__law_with : Fun K "_law_with" "_law_with" (topS 48) f__law_with fd__law_with
  b__law_with : Binds K fd__law_with ["row", "place", "thing"] []
  g__law_with : mg "_law_with" = some (.ref f__law_with)
  k__law_with : PySem.W.keepIn K (.ref f__law_with) = true
  f__law_joins : Addr
  fd__law_joins : FuncData
  F__law_joins : Fun K "_law_joins" "_law_joins" (topS 49) f__law_joins fd__law_joins
  b__law_joins : Binds K fd__law_joins ["source", "sorts"] []
  g__law_joins : mg "_law_joins" = some (.ref f__law_joins)
  k__law_joins : PySem.W.keepIn K (.ref f__law_joins) = true
  f__law_book : Addr
  fd__law_book : FuncData
  F__law_book : Fun K "_law_book" "_law_book" (topS 50) f__law_book fd__law_book
  b__law_book : Binds K fd__law_book ["source"] []
  g__law_book : mg "_law_book" = some (.ref f__law_book)
  k__law_book : PySem.W.keepIn K (.ref f__law_book) = true
  f__law_other_web : Addr
  fd__law_other_web : FuncData
  F__law_other_web : Fun K "_law_other_web" "_law_other_web" (topS 51) f__law_other_web fd__law_other_web
  b__law_other_web : Binds K fd__law_other_web ["source", "widths", "pipes"] []
  g__law_other_web : mg "_law_other_web" = some (.ref f__law_other_web)
  k__law_other_web : PySem.W.keepIn K (.ref f__law_other_web) = true
  f__law_other_book : Addr
  fd__law_other_book : FuncData
  F__law_other_book : Fun K "_law_other_book" "_law_other_book" (topS 52) f__law_other_book fd__law_other_book
  b__law_other_book : Binds K fd__law_other_book ["source", "sorts", "kinds"] []
  g__law_other_book : mg "_law_other_book" = some (.ref f__law_other_book)
  k__law_other_book : PySem.W.keepIn K (.ref f__law_other_book) = true
  f__law_alike : Addr
  fd__law_alike : FuncData
  F__law_alike : Fun K "_law_alike" "_law_alike" (topS 53) f__law_alike fd__law_alike
  b__law_alike : Binds K fd__law_alike ["one", "other", "due"] []
  g__law_alike : mg "_law_alike" = some (.ref f__law_alike)
  k__law_alike : PySem.W.keepIn K (.ref f__law_alike) = true
  Z : CT
  cm_Book : Mk K Z.C_Book f_Book__init__
  gc_Book : mg "Book" = some (.ref Z.C_Book)
  it_Book : InsTy K Z.C_Book
  ok_Book : OkD K (.oth (.ref Z.C_Book))
  cm_Web : Mk K Z.C_Web f_Web__init__
  gc_Web : mg "Web" = some (.ref Z.C_Web)
  it_Web : InsTy K Z.C_Web
  ok_Web : OkD K (.oth (.ref Z.C_Web))
  oc_Book : OwnCmp K Z.C_Book f_Book__eq__
  oc_Web : OwnCmp K Z.C_Web f_Web__eq__
  gc_TidesError : mg "TidesError" = some (.ref Z.C_TidesError)
  fi_BadBook : Addr
  fdx_BadBook : FuncData
  Fx_BadBook : Fun K "__init__" "BadBook.__init__" (inClass (topS 11) 0) fi_BadBook fdx_BadBook
  bx_BadBook : Binds K fdx_BadBook ["self", "part"] []
  gx_BadBook : mg "BadBook" = some (.ref Z.C_BadBook)
  ox_BadBook : OexC K Z.C_BadBook
  xi_BadBook : PySem.W.findIn K (.ref Z.C_BadBook) "__init__" = some (some (.ref fi_BadBook))
  xt_BadBook : PySem.W.typeIn K (.ref fi_BadBook) = some (.type "function")
  no_BadBook : PySem.W.findIn K (.ref Z.C_BadBook) "part" = some none
  xf_BadBook : L2.XfC K Z.C_BadBook
  fi_BadWeb : Addr
  fdx_BadWeb : FuncData
  Fx_BadWeb : Fun K "__init__" "BadWeb.__init__" (inClass (topS 10) 0) fi_BadWeb fdx_BadWeb
  bx_BadWeb : Binds K fdx_BadWeb ["self", "part"] []
  gx_BadWeb : mg "BadWeb" = some (.ref Z.C_BadWeb)
  ox_BadWeb : OexC K Z.C_BadWeb
  xi_BadWeb : PySem.W.findIn K (.ref Z.C_BadWeb) "__init__" = some (some (.ref fi_BadWeb))
  xt_BadWeb : PySem.W.typeIn K (.ref fi_BadWeb) = some (.type "function")
  no_BadWeb : PySem.W.findIn K (.ref Z.C_BadWeb) "part" = some none
  xf_BadWeb : L2.XfC K Z.C_BadWeb
  na_Book_kinds : NoAttr K Z.C_Book "kinds"
  na_Book_sorts : NoAttr K Z.C_Book "sorts"
  na_Web_pipes : NoAttr K Z.C_Web "pipes"
  na_Web_widths : NoAttr K Z.C_Web "widths"
  z_abs : mg "abs" = none
  z_all : mg "all" = none
  z_bool : mg "bool" = none
  z_enumerate : mg "enumerate" = none
  z_int : mg "int" = none
  z_isinstance : mg "isinstance" = none
  z_len : mg "len" = none
  z_list : mg "list" = none
  z_range : mg "range" = none
  z_sorted : mg "sorted" = none
  z_str : mg "str" = none
  z_tuple : mg "tuple" = none
  z_zip : mg "zip" = none
  t_MOST_BOTTOM : Tok
  c_MOST_BOTTOM : mg "MOST_BOTTOM" = some (.int 144 t_MOST_BOTTOM)
  t_MOST_CAP : Tok
  c_MOST_CAP : mg "MOST_CAP" = some (.int 6 t_MOST_CAP)
  t_MOST_KINDS : Tok
  c_MOST_KINDS : mg "MOST_KINDS" = some (.int 5 t_MOST_KINDS)
  t_MOST_PIPES : Tok
  c_MOST_PIPES : mg "MOST_PIPES" = some (.int 36 t_MOST_PIPES)
  t_MOST_SORTS : Tok
  c_MOST_SORTS : mg "MOST_SORTS" = some (.int 4 t_MOST_SORTS)
  t_MOST_THRESHOLDS : Tok
  c_MOST_THRESHOLDS : mg "MOST_THRESHOLDS" = some (.int 6 t_MOST_THRESHOLDS)
  t_MOST_TOP : Tok
  c_MOST_TOP : mg "MOST_TOP" = some (.int 1000000 t_MOST_TOP)
  t_MOST_VESSELS : Tok
  c_MOST_VESSELS : mg "MOST_VESSELS" = some (.int 12 t_MOST_VESSELS)
  t_MOST_WIDTH : Tok
  c_MOST_WIDTH : mg "MOST_WIDTH" = some (.int 12 t_MOST_WIDTH)
  m_gcd : mg "gcd" = some (.builtin "math.gcd")
abbrev sx_BadBook : Stmt := inClass (topS 11) 0
theorem scx_BadBook : FnScope ["self", "part"] ["self", "part"] (defScope sx_BadBook) := ⟨rfl, rfl, rfl, by decide +kernel, rfl, by decide +kernel, by decide +kernel⟩
theorem okx_BadBook [TB : TabT] {P : Program} {w : World} {K : PySem.W.Frag} {mg : Str → Option Value} {base : Heap} (T : Txt K mg) : FnOk P w K mg base (L2.CX P w) 1 T.fi_BadBook T.fdx_BadBook ["self", "part"] (spX1 K T.Z.C_BadBook "part") := exc1_ok T.Fx_BadBook scx_BadBook rfl (by decide) (fun _ => rfl) T.ox_BadBook T.no_BadBook fun _ _ _ _ _ _ => ⟨pv 0, pv 1⟩
abbrev sx_BadWeb : Stmt := inClass (topS 10) 0
theorem scx_BadWeb : FnScope ["self", "part"] ["self", "part"] (defScope sx_BadWeb) := ⟨rfl, rfl, rfl, by decide +kernel, rfl, by decide +kernel, by decide +kernel⟩
theorem okx_BadWeb [TB : TabT] {P : Program} {w : World} {K : PySem.W.Frag} {mg : Str → Option Value} {base : Heap} (T : Txt K mg) : FnOk P w K mg base (L2.CX P w) 1 T.fi_BadWeb T.fdx_BadWeb ["self", "part"] (spX1 K T.Z.C_BadWeb "part") := exc1_ok T.Fx_BadWeb scx_BadWeb rfl (by decide) (fun _ => rfl) T.ox_BadWeb T.no_BadWeb fun _ _ _ _ _ _ => ⟨pv 0, pv 1⟩
section
variable [TB : TabT] {P : Program} {w : World} {K : PySem.W.Frag} {mg : Str → Option Value} {base : Heap}
abbrev s_is_integer : Stmt := topS 2
theorem sc_is_integer : FnScope ["thing"] ["thing"] (defScope s_is_integer) := ⟨rfl, rfl, rfl, by decide +kernel, rfl, by decide +kernel, by decide +kernel⟩
def w_is_integer (K : PySem.W.Frag) : SW := (wRet (wAndV (wCB (gIsi K) (wCons (wVar 0) (wCons (wC (.ty "int")) wNil))) (wNotV (wCB (gIsi K) (wCons (wVar 0) (wCons (wC (.ty "bool")) wNil))))))
def isIntD : D → Bool | .int _ => true | _ => false
def fs_is_integer (K : PySem.W.Frag) : FS := fun cs q _ => ∃ d, cs = [.dat d] ∧ OkD K d ∧ q (.bl (isIntD d)) [.dat d]
theorem pure_is_integer : PureD 1 0 (fs_is_integer K) (w_is_integer K) := by
  rintro cs q e - ⟨d, rfl, hd, hq⟩
  simp only [w_is_integer, gIsi_iff hd (show "int" ∈ kinds by simp), gIsi_iff hd (show "bool" ∈ kinds by simp), wListRg1, wListRg2, wRngDown, wZipK, gInL, gNotInT, wCatOwn, gIsB, gNotB, D.adr.injEq, Cont.pool.injEq, ixN31, ne_eq, List.map_cons, List.map_nil, wPoolOpen, wPoolClose, wPop0, wPopTo, wListOwn, wRemove, wRaise0, wRaise1, wAugOwn, wEnumL, wTru, wSlA, gCatA, gLtT, gLeT, wFrz, wChain3, wAttr, wMkF, wEnumT, wRevT, wDict0, wDict1, numD3, Nat.reduceAdd, atI0, atI1, atI2, atI3, atI4, ixN51, ixN52, ixN53, List.length_map, wNever, scal, V.int.injEq, V.str.injEq, V.bl.injEq, wSq, wNext, wBreak, wCont, wDrop, wRet, wRetN, wIfS, wAsg, wPar, wLstOwn, wAppend, wSetOwn, wIxOwn, wPeek, wRetOwn, wRetFr, wFor, wB, wNot, wAnd, wOr, wAndV, wOrV, wNotV, wIf, wChain, wNil, wCons, wCB, wTup, wLst, wNoPart, wPart, wSlT, wSlL, wSeq, wRng1, wRng2, wZip, wName, wNilT, wConsT, wTupT, wYes, wNeg, wVar, wC, wOp, wcNil, wcCons, wcOwn, wCall, wCallOwn, slots, cellsOf, OwnArgs, putBack, g2I, g2IC, gLen, gAbs, gGcd, gInt1, gTupleOf, gListOf, gIx, gCatT, gCat, gEq, gNe, gIsN, gNotN, scD, seqD_t, seqD_l, seqD_f, isNonD, List.nodup_cons, List.mem_cons, List.not_mem_nil, or_false, not_false_eq_true, Nat.reduceEqDiff, L3.Keeps, ends, wipeD, List.replicate, List.cons_append, List.nil_append, List.append_nil, List.getElem?_cons_zero, List.getElem?_cons_succ, List.set_cons_zero, List.set_cons_succ, List.getD_cons_zero, List.getD_cons_succ, List.length_cons, List.length_nil, List.nodup_nil, Option.some.injEq, Cell.dat.injEq, Cell.own.injEq, Cont.lst.injEq, D.bl.injEq, D.int.injEq, D.str.injEq, D.tup.injEq, D.lst.injEq, Arg.d.injEq, List.cons.injEq, exists_and_left, exists_and_right, exists_eq_left', exists_eq_left, exists_eq_right, exists_eq_right', exists_eq, exists_eq', and_true, true_and, and_assoc, and_self, exists_const, reduceCtorEq]
  cases d <;> simp_all [isiD, isIntD]
theorem ok_is_integer (T : Txt K mg) : FnOk P w K mg base (L2.CX P w) 1 T.f_is_integer T.fd_is_integer ["thing"] (spOf K 1 (fs_is_integer K)) := by
  refine def_ok T.F_is_integer sc_is_integer (wb := w_is_integer K) pure_is_integer ?_
  intro cdv A outer s H E hr tk
  exact ⟨_, (pss_one (ps_ret (pe_and (pe_callB call_isi (by rfl) T.z_isinstance (by decide +kernel) (pa_cons (pv 0) (pa_cons (pe_bltn (v := .ty "int") (by rfl) T.z_int (by decide +kernel) rfl) pa_nil))) (pe_one (pe_not (pe_callB call_isi (by rfl) T.z_isinstance (by decide +kernel) (pa_cons (pv 0) (pa_cons (pe_bltn (v := .ty "bool") (by rfl) T.z_bool (by decide +kernel) rfl) pa_nil)))))))),
    (ds_ret (de_and (de_cb o_isi (da_cons (de_var 0) (da_cons de_ty da_nil))) (de_not (de_cb o_isi (da_cons (de_var 0) (da_cons de_ty da_nil))))))⟩
abbrev s_is_between : Stmt := topS 3
theorem sc_is_between : FnScope ["low", "high", "thing"] ["low", "high", "thing"] (defScope s_is_between) := ⟨rfl, rfl, rfl, by decide +kernel, rfl, by decide +kernel, by decide +kernel⟩
def w_is_between (K : PySem.W.Frag) : SW := (wRet (wAndV (wCall 1 (fs_is_integer K) (wcCons (wVar 2) wcNil)) (wChain gLeI gLeI (wVar 0) (wVar 2) (wVar 1))))
def isBetw (l h : Int) : D → Bool | .int i => decide (l ≤ i) && decide (i ≤ h) | _ => false
def fs_is_between (K : PySem.W.Frag) : FS := fun cs q _ => ∃ (l h : Int) (d : D), cs = [.dat (.int l), .dat (.int h), .dat d] ∧ OkD K d ∧ q (.bl (isBetw l h d)) cs
theorem pure_is_between : PureD 3 0 (fs_is_between K) (w_is_between K) := by
  rintro cs q e - ⟨l, h, d, rfl, hd, hq⟩
  simp only [w_is_between, fs_is_integer, hd, wListRg1, wListRg2, wRngDown, wZipK, gInL, gNotInT, wCatOwn, gIsB, gNotB, D.adr.injEq, Cont.pool.injEq, ixN31, ne_eq, List.map_cons, List.map_nil, wPoolOpen, wPoolClose, wPop0, wPopTo, wListOwn, wRemove, wRaise0, wRaise1, wAugOwn, wEnumL, wTru, wSlA, gCatA, gLtT, gLeT, wFrz, wChain3, wAttr, wMkF, wEnumT, wRevT, wDict0, wDict1, numD3, Nat.reduceAdd, atI0, atI1, atI2, atI3, atI4, ixN51, ixN52, ixN53, List.length_map, wNever, scal, V.int.injEq, V.str.injEq, V.bl.injEq, wSq, wNext, wBreak, wCont, wDrop, wRet, wRetN, wIfS, wAsg, wPar, wLstOwn, wAppend, wSetOwn, wIxOwn, wPeek, wRetOwn, wRetFr, wFor, wB, wNot, wAnd, wOr, wAndV, wOrV, wNotV, wIf, wChain, wNil, wCons, wCB, wTup, wLst, wNoPart, wPart, wSlT, wSlL, wSeq, wRng1, wRng2, wZip, wName, wNilT, wConsT, wTupT, wYes, wNeg, wVar, wC, wOp, wcNil, wcCons, wcOwn, wCall, wCallOwn, slots, cellsOf, OwnArgs, putBack, g2I, g2IC, gLen, gAbs, gGcd, gInt1, gTupleOf, gListOf, gIx, gCatT, gCat, gEq, gNe, gIsN, gNotN, scD, seqD_t, seqD_l, seqD_f, isNonD, List.nodup_cons, List.mem_cons, List.not_mem_nil, or_false, not_false_eq_true, Nat.reduceEqDiff, L3.Keeps, ends, wipeD, List.replicate, List.cons_append, List.nil_append, List.append_nil, List.getElem?_cons_zero, List.getElem?_cons_succ, List.set_cons_zero, List.set_cons_succ, List.getD_cons_zero, List.getD_cons_succ, List.length_cons, List.length_nil, List.nodup_nil, Option.some.injEq, Cell.dat.injEq, Cell.own.injEq, Cont.lst.injEq, D.bl.injEq, D.int.injEq, D.str.injEq, D.tup.injEq, D.lst.injEq, Arg.d.injEq, List.cons.injEq, exists_and_left, exists_and_right, exists_eq_left', exists_eq_left, exists_eq_right, exists_eq_right', exists_eq, exists_eq', and_true, true_and, and_assoc, and_self, exists_const, reduceCtorEq]
  cases d <;> simp_all [isIntD, isBetw]
  rename_i i
  refine ⟨fun h1 => ?_, fun h1 => ?_⟩
  · simpa [h1] using hq
  · have h2 : ¬ l ≤ i := by omega
    simpa [h2] using hq
theorem betw_int {l h : Int} {d : D} (e : isBetw l h d = true) : ∃ i, d = .int i ∧ l ≤ i ∧ i ≤ h := by
  cases d <;> simp [isBetw] at e
  exact ⟨_, rfl, e.1, e.2⟩
theorem ok_is_between (T : Txt K mg) : FnOk P w K mg base (L2.CX P w) 2 T.f_is_between T.fd_is_between ["low", "high", "thing"] (spOf K 3 (fs_is_between K)) := by
  refine def_ok T.F_is_between sc_is_between (wb := w_is_between K) pure_is_between ?_
  intro cdv A outer s H E hr tk
  exact ⟨_, (pss_one (ps_ret (pe_and (pe_callS (ok_is_integer T) (hr.mono (by decide)) rfl T.g_is_integer T.k_is_integer T.b_is_integer (fun σ => passAt tk σ) (pa_cons (pv 2) pa_nil)) (pe_one (pe_chain op_le op_le (pv 0) (pv 2) (pv 1)))))),
    (ds_ret (de_and (de_call (n := 1) (fs := fs_is_integer K) (dac_cons (de_var 2) dac_nil)) (de_chain o_le o_le (de_var 0) (de_var 2) (de_var 1))))⟩
abbrev s_is_tuple_of : Stmt := topS 4
theorem sc_is_tuple_of : FnScope ["low", "high", "thing"] ["low", "high", "thing"] (defScope s_is_tuple_of) := ⟨rfl, rfl, rfl, by decide +kernel, rfl, by decide +kernel, by decide +kernel⟩
def w_is_tuple_of (K : PySem.W.Frag) : SW := (wRet (wAndV (wCB (gIsi K) (wCons (wVar 2) (wCons (wC (.ty "tuple")) wNil))) (wChain gLeI gLeI (wVar 0) (wCB gLen (wCons (wVar 2) wNil)) (wVar 1))))
def isTupOf (l h : Int) : D → Bool | .tup ds => decide (l ≤ ds.length) && decide ((ds.length : Int) ≤ h) | _ => false
def fs_is_tuple_of (K : PySem.W.Frag) : FS := fun cs q _ => ∃ (l h : Int) (d : D), cs = [.dat (.int l), .dat (.int h), .dat d] ∧ OkD K d ∧ q (.bl (isTupOf l h d)) cs
theorem pure_is_tuple_of : PureD 3 0 (fs_is_tuple_of K) (w_is_tuple_of K) := by
  rintro cs q e - ⟨l, h, d, rfl, hd, hq⟩
  simp only [w_is_tuple_of, gIsi_iff hd (show "tuple" ∈ kinds by simp), wListRg1, wListRg2, wRngDown, wZipK, gInL, gNotInT, wCatOwn, gIsB, gNotB, D.adr.injEq, Cont.pool.injEq, ixN31, ne_eq, List.map_cons, List.map_nil, wPoolOpen, wPoolClose, wPop0, wPopTo, wListOwn, wRemove, wRaise0, wRaise1, wAugOwn, wEnumL, wTru, wSlA, gCatA, gLtT, gLeT, wFrz, wChain3, wAttr, wMkF, wEnumT, wRevT, wDict0, wDict1, numD3, Nat.reduceAdd, atI0, atI1, atI2, atI3, atI4, ixN51, ixN52, ixN53, List.length_map, wNever, scal, V.int.injEq, V.str.injEq, V.bl.injEq, wSq, wNext, wBreak, wCont, wDrop, wRet, wRetN, wIfS, wAsg, wPar, wLstOwn, wAppend, wSetOwn, wIxOwn, wPeek, wRetOwn, wRetFr, wFor, wB, wNot, wAnd, wOr, wAndV, wOrV, wNotV, wIf, wChain, wNil, wCons, wCB, wTup, wLst, wNoPart, wPart, wSlT, wSlL, wSeq, wRng1, wRng2, wZip, wName, wNilT, wConsT, wTupT, wYes, wNeg, wVar, wC, wOp, wcNil, wcCons, wcOwn, wCall, wCallOwn, slots, cellsOf, OwnArgs, putBack, g2I, g2IC, gLen, gAbs, gGcd, gInt1, gTupleOf, gListOf, gIx, gCatT, gCat, gEq, gNe, gIsN, gNotN, scD, seqD_t, seqD_l, seqD_f, isNonD, List.nodup_cons, List.mem_cons, List.not_mem_nil, or_false, not_false_eq_true, Nat.reduceEqDiff, L3.Keeps, ends, wipeD, List.replicate, List.cons_append, List.nil_append, List.append_nil, List.getElem?_cons_zero, List.getElem?_cons_succ, List.set_cons_zero, List.set_cons_succ, List.getD_cons_zero, List.getD_cons_succ, List.length_cons, List.length_nil, List.nodup_nil, Option.some.injEq, Cell.dat.injEq, Cell.own.injEq, Cont.lst.injEq, D.bl.injEq, D.int.injEq, D.str.injEq, D.tup.injEq, D.lst.injEq, Arg.d.injEq, List.cons.injEq, exists_and_left, exists_and_right, exists_eq_left', exists_eq_left, exists_eq_right, exists_eq_right', exists_eq, exists_eq', and_true, true_and, and_assoc, and_self, exists_const, reduceCtorEq]
  cases d <;> simp_all [isiD, isTupOf, seqD]
  rename_i ds
  refine ⟨fun h1 => ?_, fun h1 => ?_⟩
  · simpa [h1] using hq
  · have h2 : ¬ l ≤ (ds.length : Int) := by omega
    simpa [h2] using hq
theorem ok_is_tuple_of (T : Txt K mg) : FnOk P w K mg base (L2.CX P w) 1 T.f_is_tuple_of T.fd_is_tuple_of ["low", "high", "thing"] (spOf K 3 (fs_is_tuple_of K)) := by
  refine def_ok T.F_is_tuple_of sc_is_tuple_of (wb := w_is_tuple_of K) pure_is_tuple_of ?_
  intro cdv A outer s H E hr tk
  exact ⟨_, (pss_one (ps_ret (pe_and (pe_callB call_isi (by rfl) T.z_isinstance (by decide +kernel) (pa_cons (pv 2) (pa_cons (pe_bltn (v := .ty "tuple") (by rfl) T.z_tuple (by decide +kernel) rfl) pa_nil))) (pe_one (pe_chain op_le op_le (pv 0) (pe_callB call_len_seq (by rfl) T.z_len (by decide +kernel) (pa_cons (pv 2) pa_nil)) (pv 1)))))),
    (ds_ret (de_and (de_cb o_isi (da_cons (de_var 2) (da_cons de_ty da_nil))) (de_chain o_le o_le (de_var 0) (de_cb o_len (da_cons (de_var 2) da_nil)) (de_var 1))))⟩
abbrev s_is_fraction : Stmt := topS 5
theorem sc_is_fraction : FnScope ["thing", "top", "bottom"] ["thing"] (defScope s_is_fraction) := ⟨rfl, rfl, rfl, by decide +kernel, rfl, by decide +kernel, by decide +kernel⟩
def w_is_fraction (K : PySem.W.Frag) : SW := (wSq (wIfS (wNot (wB (wCall 3 (fs_is_tuple_of K) (wcCons (wC (.int 2)) (wcCons (wC (.int 2)) (wcCons (wVar 0) wcNil)))))) (wRet (wC (.bl false))) wNext)
  (wSq (wAsg (wVar 0) (wTupT 2 (wConsT (wName 1) (wConsT (wName 2) wNilT))))
  (wRet (wAndV (wCall 1 (fs_is_integer K) (wcCons (wVar 1) wcNil)) (wAndV (wCall 1 (fs_is_integer K) (wcCons (wVar 2) wcNil)) (wAndV (wOp gGeI (wVar 2) (wC (.int 1))) (wOp gEq (wCB gGcd (wCons (wVar 1) (wCons (wVar 2) wNil))) (wC (.int 1)))))))))
def isFr : D → Bool | .tup [.int t, .int b] => decide (1 ≤ b) && decide (Nat.gcd t.natAbs b.natAbs = 1) | _ => false
def fs_is_fraction (K : PySem.W.Frag) : FS := fun cs q _ => ∃ d, cs = [.dat d] ∧ OkD K d ∧ q (.bl (isFr d)) [.dat d]
theorem tup_two {d : D} (h : isTupOf 2 2 d = true) : ∃ x y, d = .tup [x, y] := by
  cases d <;> simp [isTupOf] at h
  rename_i ds
  match ds, h with
  | [], h => simp at h
  | [x], h => simp at h
  | [x, y], _ => exact ⟨x, y, rfl⟩
  | x :: y :: z :: r, h => simp at h; omega
theorem tup_not_two {d : D} (h : isTupOf 2 2 d = false) : isFr d = false := by
  cases d with
  | tup ds =>
    match ds with
    | [] => rfl
    | [x] => cases x <;> rfl
    | [x, y] => simp [isTupOf] at h
    | x :: y :: z :: r => cases x <;> cases y <;> rfl
  | _ => rfl
theorem int_of {x : D} (h : isIntD x = true) : ∃ i, x = .int i := by
  cases x <;> first | exact ⟨_, rfl⟩ | cases h
theorem fr_l {x y : D} (h : isIntD x = false) : isFr (.tup [x, y]) = false := by
  cases x <;> first | rfl | cases h
theorem fr_r {x y : D} (h : isIntD y = false) : isFr (.tup [x, y]) = false := by
  cases x <;> cases y <;> first | rfl | cases h
theorem pure_is_fraction : PureD 1 2 (fs_is_fraction K) (w_is_fraction K) := by
  rintro cs q e - ⟨d, rfl, hd, hq⟩
  cases h : isTupOf 2 2 d with
  | true =>
    obtain ⟨x, y, rfl⟩ := tup_two h
    have hx := okTup hd (d := x) (by simp)
    have hy := okTup hd (d := y) (by simp)
    simp only [w_is_fraction, fs_is_tuple_of, fs_is_integer, h, hd, hx, hy, wListRg1, wListRg2, wRngDown, wZipK, gInL, gNotInT, wCatOwn, gIsB, gNotB, D.adr.injEq, Cont.pool.injEq, ixN31, ne_eq, List.map_cons, List.map_nil, wPoolOpen, wPoolClose, wPop0, wPopTo, wListOwn, wRemove, wRaise0, wRaise1, wAugOwn, wEnumL, wTru, wSlA, gCatA, gLtT, gLeT, wFrz, wChain3, wAttr, wMkF, wEnumT, wRevT, wDict0, wDict1, numD3, Nat.reduceAdd, atI0, atI1, atI2, atI3, atI4, ixN51, ixN52, ixN53, List.length_map, wNever, scal, V.int.injEq, V.str.injEq, V.bl.injEq, wSq, wNext, wBreak, wCont, wDrop, wRet, wRetN, wIfS, wAsg, wPar, wLstOwn, wAppend, wSetOwn, wIxOwn, wPeek, wRetOwn, wRetFr, wFor, wB, wNot, wAnd, wOr, wAndV, wOrV, wNotV, wIf, wChain, wNil, wCons, wCB, wTup, wLst, wNoPart, wPart, wSlT, wSlL, wSeq, wRng1, wRng2, wZip, wName, wNilT, wConsT, wTupT, wYes, wNeg, wVar, wC, wOp, wcNil, wcCons, wcOwn, wCall, wCallOwn, slots, cellsOf, OwnArgs, putBack, g2I, g2IC, gLen, gAbs, gGcd, gInt1, gTupleOf, gListOf, gIx, gCatT, gCat, gEq, gNe, gIsN, gNotN, scD, seqD_t, seqD_l, seqD_f, isNonD, List.nodup_cons, List.mem_cons, List.not_mem_nil, or_false, not_false_eq_true, Nat.reduceEqDiff, L3.Keeps, ends, wipeD, List.replicate, List.cons_append, List.nil_append, List.append_nil, List.getElem?_cons_zero, List.getElem?_cons_succ, List.set_cons_zero, List.set_cons_succ, List.getD_cons_zero, List.getD_cons_succ, List.length_cons, List.length_nil, List.nodup_nil, Option.some.injEq, Cell.dat.injEq, Cell.own.injEq, Cont.lst.injEq, D.bl.injEq, D.int.injEq, D.str.injEq, D.tup.injEq, D.lst.injEq, Arg.d.injEq, List.cons.injEq, exists_and_left, exists_and_right, exists_eq_left', exists_eq_left, exists_eq_right, exists_eq_right', exists_eq, exists_eq', and_true, true_and, and_assoc, and_self, exists_const, reduceCtorEq]
    cases ix : isIntD x with
    | false =>
      rw [fr_l ix] at hq
      simpa using hq
    | true =>
      cases iy : isIntD y with
      | false =>
        rw [fr_r iy] at hq
        simpa using hq
      | true =>
        obtain ⟨t, rfl⟩ := int_of ix
        obtain ⟨b, rfl⟩ := int_of iy
        have e : isFr (.tup [.int t, .int b]) = (decide (1 ≤ b) && decide (((Nat.gcd t.natAbs b.natAbs : Nat) : Int) = 1)) := by
          simp only [isFr]
          congr 1
          exact decide_eq_decide.mpr (by omega)
        rw [e] at hq
        by_cases h1 : 1 ≤ b
        · simp [h1] at hq ⊢
          exact ⟨hq, fun z => absurd z (by omega)⟩
        · simp [h1] at hq ⊢
          exact fun _ => hq
  | false =>
    rw [tup_not_two h] at hq
    simp only [w_is_fraction, fs_is_tuple_of, fs_is_integer, h, hd, wListRg1, wListRg2, wRngDown, wZipK, gInL, gNotInT, wCatOwn, gIsB, gNotB, D.adr.injEq, Cont.pool.injEq, ixN31, ne_eq, List.map_cons, List.map_nil, wPoolOpen, wPoolClose, wPop0, wPopTo, wListOwn, wRemove, wRaise0, wRaise1, wAugOwn, wEnumL, wTru, wSlA, gCatA, gLtT, gLeT, wFrz, wChain3, wAttr, wMkF, wEnumT, wRevT, wDict0, wDict1, numD3, Nat.reduceAdd, atI0, atI1, atI2, atI3, atI4, ixN51, ixN52, ixN53, List.length_map, wNever, scal, V.int.injEq, V.str.injEq, V.bl.injEq, wSq, wNext, wBreak, wCont, wDrop, wRet, wRetN, wIfS, wAsg, wPar, wLstOwn, wAppend, wSetOwn, wIxOwn, wPeek, wRetOwn, wRetFr, wFor, wB, wNot, wAnd, wOr, wAndV, wOrV, wNotV, wIf, wChain, wNil, wCons, wCB, wTup, wLst, wNoPart, wPart, wSlT, wSlL, wSeq, wRng1, wRng2, wZip, wName, wNilT, wConsT, wTupT, wYes, wNeg, wVar, wC, wOp, wcNil, wcCons, wcOwn, wCall, wCallOwn, slots, cellsOf, OwnArgs, putBack, g2I, g2IC, gLen, gAbs, gGcd, gInt1, gTupleOf, gListOf, gIx, gCatT, gCat, gEq, gNe, gIsN, gNotN, scD, seqD_t, seqD_l, seqD_f, isNonD, List.nodup_cons, List.mem_cons, List.not_mem_nil, or_false, not_false_eq_true, Nat.reduceEqDiff, L3.Keeps, ends, wipeD, List.replicate, List.cons_append, List.nil_append, List.append_nil, List.getElem?_cons_zero, List.getElem?_cons_succ, List.set_cons_zero, List.set_cons_succ, List.getD_cons_zero, List.getD_cons_succ, List.length_cons, List.length_nil, List.nodup_nil, Option.some.injEq, Cell.dat.injEq, Cell.own.injEq, Cont.lst.injEq, D.bl.injEq, D.int.injEq, D.str.injEq, D.tup.injEq, D.lst.injEq, Arg.d.injEq, List.cons.injEq, exists_and_left, exists_and_right, exists_eq_left', exists_eq_left, exists_eq_right, exists_eq_right', exists_eq, exists_eq', and_true, true_and, and_assoc, and_self, exists_const, reduceCtorEq]
    simpa using hq
theorem ok_is_fraction (T : Txt K mg) : FnOk P w K mg base (L2.CX P w) 2 T.f_is_fraction T.fd_is_fraction ["thing"] (spOf K 1 (fs_is_fraction K)) := by
  refine def_ok T.F_is_fraction sc_is_fraction (wb := w_is_fraction K) pure_is_fraction ?_
  intro cdv A outer s H E hr tk
  exact ⟨_, (pss_cons (ps_if (pt_not (pt_val (pe_callS (ok_is_tuple_of T) (hr.mono (by decide)) rfl T.g_is_tuple_of T.k_is_tuple_of T.b_is_tuple_of (fun σ => passAt tk σ) (pa_cons pe_int (pa_cons pe_int (pa_cons (pv 0) pa_nil))))))
        (pss_one (ps_ret pe_bl))
        pss_nil)
      (pss_cons (ps_asg (pv 0) (pg_tup (by rfl) (pgs_cons (pg_name (i := 1) sc_is_fraction.nd rfl (by first | exact Or.inl rfl | exact Or.inr rfl)) (pgs_cons (pg_name (i := 2) sc_is_fraction.nd rfl (by first | exact Or.inl rfl | exact Or.inr rfl)) pgs_nil))))
      (pss_one (ps_ret (pe_and (pe_callS (ok_is_integer T) (hr.mono (by decide)) rfl T.g_is_integer T.k_is_integer T.b_is_integer (fun σ => passAt tk σ) (pa_cons (pv 1) pa_nil)) (pe_and (pe_callS (ok_is_integer T) (hr.mono (by decide)) rfl T.g_is_integer T.k_is_integer T.b_is_integer (fun σ => passAt tk σ) (pa_cons (pv 2) pa_nil)) (pe_and (pe_cmpR op_ge (pv 2) pe_int (nomark _)) (pe_one (pe_cmpR op_eq (pe_callBfun cr_gcd (by rfl) T.m_gcd (pa_cons (pv 1) (pa_cons (pv 2) pa_nil))) pe_int (nomark _)))))))))),
    (ds_seq (ds_if (dt_not (dt_B (de_call (n := 3) (fs := fs_is_tuple_of K) (dac_cons de_int (dac_cons de_int (dac_cons (de_var 0) dac_nil)))))) (ds_ret de_bl) ds_nil)
      (ds_seq (ds_asg (de_var 0) (dg_tup (n := 2) (dgs_cons (dg_name 1) (dgs_cons (dg_name 2) dgs_nil))))
      (ds_ret (de_and (de_call (n := 1) (fs := fs_is_integer K) (dac_cons (de_var 1) dac_nil)) (de_and (de_call (n := 1) (fs := fs_is_integer K) (dac_cons (de_var 2) dac_nil)) (de_and (de_op o_ge (de_var 2) de_int) (de_op o_eq (de_cb o_gcd (da_cons (de_var 1) (da_cons (de_var 2) da_nil))) de_int)))))))⟩
abbrev s_at_most : Stmt := topS 7
theorem sc_at_most : FnScope ["one", "other"] ["one", "other"] (defScope s_at_most) := ⟨rfl, rfl, rfl, by decide +kernel, rfl, by decide +kernel, by decide +kernel⟩
def w_at_most (K : PySem.W.Frag) : SW := (wRet (wOp gLeI (wOp gMulA (wOp gIx (wVar 0) (wC (.int 0))) (wOp gIx (wVar 1) (wC (.int 1)))) (wOp gMulA (wOp gIx (wVar 1) (wC (.int 0))) (wOp gIx (wVar 0) (wC (.int 1))))))
def fs_at_most (K : PySem.W.Frag) : FS := fun cs q _ => ∃ a b c d : Int, cs = [.dat (.tup [.int a, .int b]), .dat (.tup [.int c, .int d])] ∧ CMulA a d ∧ CMulA c b ∧ q (.bl (decide (a * d ≤ c * b))) cs
theorem pure_at_most : PureD 2 0 (fs_at_most K) (w_at_most K) := by
  rintro cs q e - ⟨a, b, c, d, rfl, h1, h2, hq⟩
  simp only [w_at_most, atI0, atI1, wListRg1, wListRg2, wRngDown, wZipK, gInL, gNotInT, wCatOwn, gIsB, gNotB, D.adr.injEq, Cont.pool.injEq, ixN31, ne_eq, List.map_cons, List.map_nil, wPoolOpen, wPoolClose, wPop0, wPopTo, wListOwn, wRemove, wRaise0, wRaise1, wAugOwn, wEnumL, wTru, wSlA, gCatA, gLtT, gLeT, wFrz, wChain3, wAttr, wMkF, wEnumT, wRevT, wDict0, wDict1, numD3, Nat.reduceAdd, atI0, atI1, atI2, atI3, atI4, ixN51, ixN52, ixN53, List.length_map, wNever, scal, V.int.injEq, V.str.injEq, V.bl.injEq, wSq, wNext, wBreak, wCont, wDrop, wRet, wRetN, wIfS, wAsg, wPar, wLstOwn, wAppend, wSetOwn, wIxOwn, wPeek, wRetOwn, wRetFr, wFor, wB, wNot, wAnd, wOr, wAndV, wOrV, wNotV, wIf, wChain, wNil, wCons, wCB, wTup, wLst, wNoPart, wPart, wSlT, wSlL, wSeq, wRng1, wRng2, wZip, wName, wNilT, wConsT, wTupT, wYes, wNeg, wVar, wC, wOp, wcNil, wcCons, wcOwn, wCall, wCallOwn, slots, cellsOf, OwnArgs, putBack, g2I, g2IC, gLen, gAbs, gGcd, gInt1, gTupleOf, gListOf, gIx, gCatT, gCat, gEq, gNe, gIsN, gNotN, scD, seqD_t, seqD_l, seqD_f, isNonD, List.nodup_cons, List.mem_cons, List.not_mem_nil, or_false, not_false_eq_true, Nat.reduceEqDiff, L3.Keeps, ends, wipeD, List.replicate, List.cons_append, List.nil_append, List.append_nil, List.getElem?_cons_zero, List.getElem?_cons_succ, List.set_cons_zero, List.set_cons_succ, List.getD_cons_zero, List.getD_cons_succ, List.length_cons, List.length_nil, List.nodup_nil, Option.some.injEq, Cell.dat.injEq, Cell.own.injEq, Cont.lst.injEq, D.bl.injEq, D.int.injEq, D.str.injEq, D.tup.injEq, D.lst.injEq, Arg.d.injEq, List.cons.injEq, exists_and_left, exists_and_right, exists_eq_left', exists_eq_left, exists_eq_right, exists_eq_right', exists_eq, exists_eq', and_true, true_and, and_assoc, and_self, exists_const, reduceCtorEq]
  exact ⟨h1, h2, hq⟩
theorem ok_at_most (T : Txt K mg) : FnOk P w K mg base (L2.CX P w) 1 T.f_at_most T.fd_at_most ["one", "other"] (spOf K 2 (fs_at_most K)) := by
  refine def_ok T.F_at_most sc_at_most (wb := w_at_most K) pure_at_most ?_
  intro cdv A outer s H E hr tk
  exact ⟨_, (pss_one (ps_ret (pe_cmpR op_le (pe_op op_mulA (pe_ix ix_seq (pv 0) pe_int (fun _ _ => rfl)) (pe_ix ix_seq (pv 1) pe_int (fun _ _ => rfl))) (pe_op op_mulA (pe_ix ix_seq (pv 1) pe_int (fun _ _ => rfl)) (pe_ix ix_seq (pv 0) pe_int (fun _ _ => rfl))) (nomark _)))),
    (ds_ret (de_op o_le (de_op o_mulA (de_op o_ix (de_var 0) de_int) (de_op o_ix (de_var 1) de_int)) (de_op o_mulA (de_op o_ix (de_var 1) de_int) (de_op o_ix (de_var 0) de_int))))⟩
abbrev s_is_threshold : Stmt := topS 17
theorem sc_is_threshold : FnScope ["thing"] ["thing"] (defScope s_is_threshold) := ⟨rfl, rfl, rfl, by decide +kernel, rfl, by decide +kernel, by decide +kernel⟩
def w_is_threshold (K : PySem.W.Frag) : SW := (wRet (wAndV (wCall 1 (fs_is_fraction K) (wcCons (wVar 0) wcNil)) (wAndV (wChain gLeI gLeI (wC (.int 1)) (wOp gIx (wVar 0) (wC (.int 0))) (wC (.int 1000000))) (wOp gLeI (wOp gIx (wVar 0) (wC (.int 1))) (wC (.int 144))))))
def isTh : D → Bool | .tup [.int t, .int b] => isFr (.tup [.int t, .int b]) && decide (1 ≤ t) && decide (t ≤ 1000000) && decide (b ≤ 144) | _ => false
def fs_is_threshold (K : PySem.W.Frag) : FS := fun cs q _ => ∃ d, cs = [.dat d] ∧ OkD K d ∧ q (.bl (isTh d)) [.dat d]
theorem fr_shape {d : D} (h : isFr d = true) : ∃ t b, d = .tup [.int t, .int b] := by
  cases d with
  | tup ds =>
    match ds with
    | [] => simp [isFr] at h
    | [x] => cases x <;> simp [isFr] at h
    | [x, y] => cases x <;> cases y <;> simp [isFr] at h; exact ⟨_, _, rfl⟩
    | x :: y :: z :: r => cases x <;> cases y <;> simp [isFr] at h
  | _ => simp [isFr] at h
theorem th_fr {d : D} (h : isFr d = false) : isTh d = false := by
  cases d with
  | tup ds =>
    match ds with
    | [] => rfl
    | [x] => cases x <;> rfl
    | [x, y] => cases x <;> cases y <;> simp_all [isTh]
    | x :: y :: z :: r => cases x <;> cases y <;> rfl
  | _ => rfl
theorem pure_is_threshold : PureD 1 0 (fs_is_threshold K) (w_is_threshold K) := by
  rintro cs q e - ⟨d, rfl, hd, hq⟩
  by_cases h : isFr d = true
  · obtain ⟨t, b, rfl⟩ := fr_shape h
    have e1 : isTh (.tup [.int t, .int b]) = (decide (1 ≤ t) && decide (t ≤ 1000000) && decide (b ≤ 144)) := by simp only [isTh, h, Bool.true_and]
    rw [e1] at hq
    simp only [w_is_threshold, fs_is_fraction, h, hd, atI0, atI1, wListRg1, wListRg2, wRngDown, wZipK, gInL, gNotInT, wCatOwn, gIsB, gNotB, D.adr.injEq, Cont.pool.injEq, ixN31, ne_eq, List.map_cons, List.map_nil, wPoolOpen, wPoolClose, wPop0, wPopTo, wListOwn, wRemove, wRaise0, wRaise1, wAugOwn, wEnumL, wTru, wSlA, gCatA, gLtT, gLeT, wFrz, wChain3, wAttr, wMkF, wEnumT, wRevT, wDict0, wDict1, numD3, Nat.reduceAdd, atI0, atI1, atI2, atI3, atI4, ixN51, ixN52, ixN53, List.length_map, wNever, scal, V.int.injEq, V.str.injEq, V.bl.injEq, wSq, wNext, wBreak, wCont, wDrop, wRet, wRetN, wIfS, wAsg, wPar, wLstOwn, wAppend, wSetOwn, wIxOwn, wPeek, wRetOwn, wRetFr, wFor, wB, wNot, wAnd, wOr, wAndV, wOrV, wNotV, wIf, wChain, wNil, wCons, wCB, wTup, wLst, wNoPart, wPart, wSlT, wSlL, wSeq, wRng1, wRng2, wZip, wName, wNilT, wConsT, wTupT, wYes, wNeg, wVar, wC, wOp, wcNil, wcCons, wcOwn, wCall, wCallOwn, slots, cellsOf, OwnArgs, putBack, g2I, g2IC, gLen, gAbs, gGcd, gInt1, gTupleOf, gListOf, gIx, gCatT, gCat, gEq, gNe, gIsN, gNotN, scD, seqD_t, seqD_l, seqD_f, isNonD, List.nodup_cons, List.mem_cons, List.not_mem_nil, or_false, not_false_eq_true, Nat.reduceEqDiff, L3.Keeps, ends, wipeD, List.replicate, List.cons_append, List.nil_append, List.append_nil, List.getElem?_cons_zero, List.getElem?_cons_succ, List.set_cons_zero, List.set_cons_succ, List.getD_cons_zero, List.getD_cons_succ, List.length_cons, List.length_nil, List.nodup_nil, Option.some.injEq, Cell.dat.injEq, Cell.own.injEq, Cont.lst.injEq, D.bl.injEq, D.int.injEq, D.str.injEq, D.tup.injEq, D.lst.injEq, Arg.d.injEq, List.cons.injEq, exists_and_left, exists_and_right, exists_eq_left', exists_eq_left, exists_eq_right, exists_eq_right', exists_eq, exists_eq', and_true, true_and, and_assoc, and_self, exists_const, reduceCtorEq]
    by_cases h1 : 1 ≤ t <;> by_cases h2 : t ≤ 1000000 <;> by_cases h3 : b ≤ 144 <;> simp [h1, h2, h3] at hq ⊢ <;> exact hq
  · have h : isFr d = false := by simpa using h
    rw [th_fr h] at hq
    simp only [w_is_threshold, fs_is_fraction, h, hd, wListRg1, wListRg2, wRngDown, wZipK, gInL, gNotInT, wCatOwn, gIsB, gNotB, D.adr.injEq, Cont.pool.injEq, ixN31, ne_eq, List.map_cons, List.map_nil, wPoolOpen, wPoolClose, wPop0, wPopTo, wListOwn, wRemove, wRaise0, wRaise1, wAugOwn, wEnumL, wTru, wSlA, gCatA, gLtT, gLeT, wFrz, wChain3, wAttr, wMkF, wEnumT, wRevT, wDict0, wDict1, numD3, Nat.reduceAdd, atI0, atI1, atI2, atI3, atI4, ixN51, ixN52, ixN53, List.length_map, wNever, scal, V.int.injEq, V.str.injEq, V.bl.injEq, wSq, wNext, wBreak, wCont, wDrop, wRet, wRetN, wIfS, wAsg, wPar, wLstOwn, wAppend, wSetOwn, wIxOwn, wPeek, wRetOwn, wRetFr, wFor, wB, wNot, wAnd, wOr, wAndV, wOrV, wNotV, wIf, wChain, wNil, wCons, wCB, wTup, wLst, wNoPart, wPart, wSlT, wSlL, wSeq, wRng1, wRng2, wZip, wName, wNilT, wConsT, wTupT, wYes, wNeg, wVar, wC, wOp, wcNil, wcCons, wcOwn, wCall, wCallOwn, slots, cellsOf, OwnArgs, putBack, g2I, g2IC, gLen, gAbs, gGcd, gInt1, gTupleOf, gListOf, gIx, gCatT, gCat, gEq, gNe, gIsN, gNotN, scD, seqD_t, seqD_l, seqD_f, isNonD, List.nodup_cons, List.mem_cons, List.not_mem_nil, or_false, not_false_eq_true, Nat.reduceEqDiff, L3.Keeps, ends, wipeD, List.replicate, List.cons_append, List.nil_append, List.append_nil, List.getElem?_cons_zero, List.getElem?_cons_succ, List.set_cons_zero, List.set_cons_succ, List.getD_cons_zero, List.getD_cons_succ, List.length_cons, List.length_nil, List.nodup_nil, Option.some.injEq, Cell.dat.injEq, Cell.own.injEq, Cont.lst.injEq, D.bl.injEq, D.int.injEq, D.str.injEq, D.tup.injEq, D.lst.injEq, Arg.d.injEq, List.cons.injEq, exists_and_left, exists_and_right, exists_eq_left', exists_eq_left, exists_eq_right, exists_eq_right', exists_eq, exists_eq', and_true, true_and, and_assoc, and_self, exists_const, reduceCtorEq]
    simp_all
theorem ok_is_threshold (T : Txt K mg) : FnOk P w K mg base (L2.CX P w) 3 T.f_is_threshold T.fd_is_threshold ["thing"] (spOf K 1 (fs_is_threshold K)) := by
  refine def_ok T.F_is_threshold sc_is_threshold (wb := w_is_threshold K) pure_is_threshold ?_
  intro cdv A outer s H E hr tk
  exact ⟨_, (pss_one (ps_ret (pe_and (pe_callS (ok_is_fraction T) (hr.mono (by decide)) rfl T.g_is_fraction T.k_is_fraction T.b_is_fraction (fun σ => passAt tk σ) (pa_cons (pv 0) pa_nil)) (pe_and (pe_chain op_le op_le pe_int (pe_ix ix_seq (pv 0) pe_int (fun _ _ => rfl)) (pe_glob (v := .int 1000000) rfl T.c_MOST_TOP ⟨_, rfl⟩)) (pe_one (pe_cmpR op_le (pe_ix ix_seq (pv 0) pe_int (fun _ _ => rfl)) (pe_glob (v := .int 144) rfl T.c_MOST_BOTTOM ⟨_, rfl⟩) (nomark _))))))),
    (ds_ret (de_and (de_call (n := 1) (fs := fs_is_fraction K) (dac_cons (de_var 0) dac_nil)) (de_and (de_chain o_le o_le de_int (de_op o_ix (de_var 0) de_int) de_int) (de_op o_le (de_op o_ix (de_var 0) de_int) de_int))))⟩
abbrev s_is_list : Stmt := topS 18
theorem sc_is_list : FnScope ["thing", "threshold", "low", "high"] ["thing"] (defScope s_is_list) := ⟨rfl, rfl, rfl, by decide +kernel, rfl, by decide +kernel, by decide +kernel⟩
def c1_is_list (K : PySem.W.Frag) : EW := wLc (wSeq (wVar 0)) (wName 1) wYes (wCall 1 (fs_is_threshold K) (wcCons (wVar 1) wcNil)) [1]
def c2_is_list (K : PySem.W.Frag) : EW := wLc (wZip (wCons (wVar 0) (wCons (wSlA (wVar 0) (wPart (wC (.int 1))) wNoPart) wNil))) (wTupT 2 (wConsT (wName 2) (wConsT (wName 3) wNilT))) wYes (wCall 2 (fs_at_most K) (wcCons (wVar 2) (wcCons (wVar 3) wcNil))) [2, 3]
def w_is_list (K : PySem.W.Frag) : SW := (wSq (wIfS (wNot (wB (wCall 3 (fs_is_tuple_of K) (wcCons (wC (.int 1)) (wcCons (wC (.int 6)) (wcCons (wVar 0) wcNil)))))) (wRet (wC (.bl false))) wNext)
  (wSq (wIfS (wNot (wB (wCB gAll (wCons (c1_is_list K) wNil)))) (wRet (wC (.bl false))) wNext)
  (wRet (wCB gAll (wCons (c2_is_list K) wNil)))))
def leP : D → Bool | .tup [.tup [.int a, .int b], .tup [.int c, .int d]] => decide (a * d ≤ c * b) | _ => false
def ascP (ds : List D) : Bool := (zipD ds (ds.drop 1)).all leP
def isLi : D → Bool | .tup ds => isTupOf 1 6 (.tup ds) && ds.all isTh && ascP ds | _ => false
def fs_is_list (K : PySem.W.Frag) : FS := fun cs q _ => ∃ d, cs = [.dat d] ∧ OkD K d ∧ q (.bl (isLi d)) [.dat d]
theorem filter_true {α : Type} {l : List α} : l.filter (fun _ => true) = l := by simp
theorem th_shape {d : D} (h : isTh d = true) : ∃ t b, d = .tup [.int t, .int b] ∧ 1 ≤ b ∧ b ≤ 144 ∧ 1 ≤ t ∧ t ≤ 1000000 := by
  cases h2 : isFr d with
  | false => rw [th_fr h2] at h; cases h
  | true =>
    obtain ⟨t, b, rfl⟩ := fr_shape h2
    simp [isTh, isFr] at h
    exact ⟨t, b, rfl, by omega, by omega, by omega, by omega⟩
theorem c1_is_list_ok {ds : List D} {c2 c3 c4 : Cell} {q : D → List Cell → Prop} {e : Xn → List Cell → Prop} (hd : OkD K (.tup ds)) (hn : ds.length ≤ 1000)
    (hq : q (.lst (ds.map fun d => .bl (isTh d))) [.dat (.tup ds), .any, c3, c4]) : c1_is_list K [.dat (.tup ds), c2, c3, c4] q e := by
  unfold c1_is_list wLc
  refine ⟨_, rfl, ds, rfl, lc_fm (fun d => .bl (isTh d)) (fun _ => true) hn (fun d hm k1 k2 h1 _ => ?_) (by rw [filter_true]; exact hq)⟩
  simp only [fs_is_threshold, okTup hd hm, wListRg1, wListRg2, wRngDown, wZipK, gInL, gNotInT, wCatOwn, gIsB, gNotB, D.adr.injEq, Cont.pool.injEq, ixN31, ne_eq, List.map_cons, List.map_nil, wPoolOpen, wPoolClose, wPop0, wPopTo, wListOwn, wRemove, wRaise0, wRaise1, wAugOwn, wEnumL, wTru, wSlA, gCatA, gLtT, gLeT, wFrz, wChain3, wAttr, wMkF, wEnumT, wRevT, wDict0, wDict1, numD3, Nat.reduceAdd, atI0, atI1, atI2, atI3, atI4, ixN51, ixN52, ixN53, List.length_map, wNever, scal, V.int.injEq, V.str.injEq, V.bl.injEq, wSq, wNext, wBreak, wCont, wDrop, wRet, wRetN, wIfS, wAsg, wPar, wLstOwn, wAppend, wSetOwn, wIxOwn, wPeek, wRetOwn, wRetFr, wFor, wB, wNot, wAnd, wOr, wAndV, wOrV, wNotV, wIf, wChain, wNil, wCons, wCB, wTup, wLst, wNoPart, wPart, wSlT, wSlL, wSeq, wRng1, wRng2, wZip, wName, wNilT, wConsT, wTupT, wYes, wNeg, wVar, wC, wOp, wcNil, wcCons, wcOwn, wCall, wCallOwn, slots, cellsOf, OwnArgs, putBack, g2I, g2IC, gLen, gAbs, gGcd, gInt1, gTupleOf, gListOf, gIx, gCatT, gCat, gEq, gNe, gIsN, gNotN, scD, seqD_t, seqD_l, seqD_f, isNonD, List.nodup_cons, List.mem_cons, List.not_mem_nil, or_false, not_false_eq_true, Nat.reduceEqDiff, L3.Keeps, ends, wipeD, List.replicate, List.cons_append, List.nil_append, List.append_nil, List.getElem?_cons_zero, List.getElem?_cons_succ, List.set_cons_zero, List.set_cons_succ, List.getD_cons_zero, List.getD_cons_succ, List.length_cons, List.length_nil, List.nodup_nil, Option.some.injEq, Cell.dat.injEq, Cell.own.injEq, Cont.lst.injEq, D.bl.injEq, D.int.injEq, D.str.injEq, D.tup.injEq, D.lst.injEq, Arg.d.injEq, List.cons.injEq, exists_and_left, exists_and_right, exists_eq_left', exists_eq_left, exists_eq_right, exists_eq_right', exists_eq, exists_eq', and_true, true_and, and_assoc, and_self, exists_const, reduceCtorEq]
  simp only [true_implies]
  refine ⟨h1 rfl _ rfl, fun z => nomatch z⟩
theorem sIx1 (n : Nat) : HT.sIx n 0 (some 1) = min 1 n := HT.sIx_nat n 0 1
theorem cutD1 {ds : List D} : cutDs ds (some 1) none = ds.drop 1 := by
  unfold cutDs
  rw [sIx1, HT.sIx_none]
  cases ds with
  | nil => rfl
  | cons x r =>
    have : min 1 (x :: r).length = 1 := by simp only [List.length_cons]; omega
    rw [this]
    exact List.take_of_length_le (by simp)
theorem cut_some {ds : List D} (h : 1 ≤ ds.length) : ¬ (HT.sIx ds.length 0 (some 1) = 0 ∧ HT.sIx ds.length ds.length none = ds.length) := fun ⟨z, _⟩ => by
  rw [sIx1] at z
  omega
theorem zip_mem {xs ys : List D} {d : D} (h : d ∈ zipD xs ys) : ∃ x y, x ∈ xs ∧ y ∈ ys ∧ d = .tup [x, y] := by
  unfold zipD at h
  obtain ⟨i, hi, e⟩ := List.getElem_of_mem h
  rw [List.getElem_zipWith] at e
  exact ⟨_, _, List.getElem_mem _, List.getElem_mem _, e.symm⟩
theorem c2_is_list_ok {ds : List D} {c2 c3 c4 : Cell} {q : D → List Cell → Prop} {e : Xn → List Cell → Prop} (h1 : 1 ≤ ds.length) (hn : ds.length ≤ 1000) (ht : ∀ d ∈ ds, isTh d = true)
    (hq : q (.lst ((zipD ds (ds.drop 1)).map fun d => .bl (leP d))) [.dat (.tup ds), c2, .any, .any]) : c2_is_list K [.dat (.tup ds), c2, c3, c4] q e := by
  unfold c2_is_list wLc
  refine ⟨_, rfl, _, rfl, 1, rfl, ds, rfl, ds, ds.drop 1, .inl (by rw [cutD1]), lc_fm (fun d => .bl (leP d)) (fun _ => true) ?_ (fun d hm k1 k2 h1 _ => ?_) (by rw [filter_true]; exact hq)⟩
  · unfold zipD
    rw [List.length_zipWith]
    omega
  · obtain ⟨x, y, hx, hy, rfl⟩ := zip_mem hm
    obtain ⟨a, b, rfl, b1, b2, b3, b4⟩ := th_shape (ht x hx)
    obtain ⟨c, d, rfl, d1, d2, d3, d4⟩ := th_shape (ht y (List.mem_of_mem_drop hy))
    simp only [fs_at_most, wListRg1, wListRg2, wRngDown, wZipK, gInL, gNotInT, wCatOwn, gIsB, gNotB, D.adr.injEq, Cont.pool.injEq, ixN31, ne_eq, List.map_cons, List.map_nil, wPoolOpen, wPoolClose, wPop0, wPopTo, wListOwn, wRemove, wRaise0, wRaise1, wAugOwn, wEnumL, wTru, wSlA, gCatA, gLtT, gLeT, wFrz, wChain3, wAttr, wMkF, wEnumT, wRevT, wDict0, wDict1, numD3, Nat.reduceAdd, atI0, atI1, atI2, atI3, atI4, ixN51, ixN52, ixN53, List.length_map, wNever, scal, V.int.injEq, V.str.injEq, V.bl.injEq, wSq, wNext, wBreak, wCont, wDrop, wRet, wRetN, wIfS, wAsg, wPar, wLstOwn, wAppend, wSetOwn, wIxOwn, wPeek, wRetOwn, wRetFr, wFor, wB, wNot, wAnd, wOr, wAndV, wOrV, wNotV, wIf, wChain, wNil, wCons, wCB, wTup, wLst, wNoPart, wPart, wSlT, wSlL, wSeq, wRng1, wRng2, wZip, wName, wNilT, wConsT, wTupT, wYes, wNeg, wVar, wC, wOp, wcNil, wcCons, wcOwn, wCall, wCallOwn, slots, cellsOf, OwnArgs, putBack, g2I, g2IC, gLen, gAbs, gGcd, gInt1, gTupleOf, gListOf, gIx, gCatT, gCat, gEq, gNe, gIsN, gNotN, scD, seqD_t, seqD_l, seqD_f, isNonD, List.nodup_cons, List.mem_cons, List.not_mem_nil, or_false, not_false_eq_true, Nat.reduceEqDiff, L3.Keeps, ends, wipeD, List.replicate, List.cons_append, List.nil_append, List.append_nil, List.getElem?_cons_zero, List.getElem?_cons_succ, List.set_cons_zero, List.set_cons_succ, List.getD_cons_zero, List.getD_cons_succ, List.length_cons, List.length_nil, List.nodup_nil, Option.some.injEq, Cell.dat.injEq, Cell.own.injEq, Cont.lst.injEq, D.bl.injEq, D.int.injEq, D.str.injEq, D.tup.injEq, D.lst.injEq, Arg.d.injEq, List.cons.injEq, exists_and_left, exists_and_right, exists_eq_left', exists_eq_left, exists_eq_right, exists_eq_right', exists_eq, exists_eq', and_true, true_and, and_assoc, and_self, exists_const, reduceCtorEq]
    simp only [true_implies]
    exact ⟨⟨cmul_r (by omega) (by omega), cmul_r (by omega) (by omega), h1 rfl _ rfl⟩, fun z => z.elim⟩
theorem all_map {α : Type} {l : List α} {f : α → Bool} : (l.map f).all id = l.all f := by simp
theorem gAll_map {α : Type} {l : List α} {f : α → Bool} {q : D → Prop} (h : q (.bl (l.all f))) : gAll [.lst (l.map fun d => .bl (f d))] q :=
  ⟨_, l.map f, .inl rfl, by simp, by rw [all_map]; exact h⟩
theorem pure_is_list : PureD 1 3 (fs_is_list K) (w_is_list K) := by
  rintro cs q e - ⟨d, rfl, hd, hq⟩
  cases h : isTupOf 1 6 d with
  | false =>
    have e1 : isLi d = false := by cases d <;> simp_all [isLi]
    rw [e1] at hq
    simp only [w_is_list, fs_is_tuple_of, h, hd, wListRg1, wListRg2, wRngDown, wZipK, gInL, gNotInT, wCatOwn, gIsB, gNotB, D.adr.injEq, Cont.pool.injEq, ixN31, ne_eq, List.map_cons, List.map_nil, wPoolOpen, wPoolClose, wPop0, wPopTo, wListOwn, wRemove, wRaise0, wRaise1, wAugOwn, wEnumL, wTru, wSlA, gCatA, gLtT, gLeT, wFrz, wChain3, wAttr, wMkF, wEnumT, wRevT, wDict0, wDict1, numD3, Nat.reduceAdd, atI0, atI1, atI2, atI3, atI4, ixN51, ixN52, ixN53, List.length_map, wNever, scal, V.int.injEq, V.str.injEq, V.bl.injEq, wSq, wNext, wBreak, wCont, wDrop, wRet, wRetN, wIfS, wAsg, wPar, wLstOwn, wAppend, wSetOwn, wIxOwn, wPeek, wRetOwn, wRetFr, wFor, wB, wNot, wAnd, wOr, wAndV, wOrV, wNotV, wIf, wChain, wNil, wCons, wCB, wTup, wLst, wNoPart, wPart, wSlT, wSlL, wSeq, wRng1, wRng2, wZip, wName, wNilT, wConsT, wTupT, wYes, wNeg, wVar, wC, wOp, wcNil, wcCons, wcOwn, wCall, wCallOwn, slots, cellsOf, OwnArgs, putBack, g2I, g2IC, gLen, gAbs, gGcd, gInt1, gTupleOf, gListOf, gIx, gCatT, gCat, gEq, gNe, gIsN, gNotN, scD, seqD_t, seqD_l, seqD_f, isNonD, List.nodup_cons, List.mem_cons, List.not_mem_nil, or_false, not_false_eq_true, Nat.reduceEqDiff, L3.Keeps, ends, wipeD, List.replicate, List.cons_append, List.nil_append, List.append_nil, List.getElem?_cons_zero, List.getElem?_cons_succ, List.set_cons_zero, List.set_cons_succ, List.getD_cons_zero, List.getD_cons_succ, List.length_cons, List.length_nil, List.nodup_nil, Option.some.injEq, Cell.dat.injEq, Cell.own.injEq, Cont.lst.injEq, D.bl.injEq, D.int.injEq, D.str.injEq, D.tup.injEq, D.lst.injEq, Arg.d.injEq, List.cons.injEq, exists_and_left, exists_and_right, exists_eq_left', exists_eq_left, exists_eq_right, exists_eq_right', exists_eq, exists_eq', and_true, true_and, and_assoc, and_self, exists_const, reduceCtorEq]
    simp_all
  | true =>
    cases d <;> simp [isTupOf] at h
    rename_i ds
    have h' : isTupOf 1 6 (.tup ds) = true := by simp [isTupOf]; omega
    simp only [w_is_list, fs_is_tuple_of, h', hd, wListRg1, wListRg2, wRngDown, wZipK, gInL, gNotInT, wCatOwn, gIsB, gNotB, D.adr.injEq, Cont.pool.injEq, ixN31, ne_eq, List.map_cons, List.map_nil, wPoolOpen, wPoolClose, wPop0, wPopTo, wListOwn, wRemove, wRaise0, wRaise1, wAugOwn, wEnumL, wTru, wSlA, gCatA, gLtT, gLeT, wFrz, wChain3, wAttr, wMkF, wEnumT, wRevT, wDict0, wDict1, numD3, Nat.reduceAdd, atI0, atI1, atI2, atI3, atI4, ixN51, ixN52, ixN53, List.length_map, wNever, scal, V.int.injEq, V.str.injEq, V.bl.injEq, wSq, wNext, wBreak, wCont, wDrop, wRet, wRetN, wIfS, wAsg, wPar, wLstOwn, wAppend, wSetOwn, wIxOwn, wPeek, wRetOwn, wRetFr, wFor, wB, wNot, wAnd, wOr, wAndV, wOrV, wNotV, wIf, wChain, wNil, wCons, wCB, wTup, wLst, wNoPart, wPart, wSlT, wSlL, wSeq, wRng1, wRng2, wZip, wName, wNilT, wConsT, wTupT, wYes, wNeg, wVar, wC, wOp, wcNil, wcCons, wcOwn, wCall, wCallOwn, slots, cellsOf, OwnArgs, putBack, g2I, g2IC, gLen, gAbs, gGcd, gInt1, gTupleOf, gListOf, gIx, gCatT, gCat, gEq, gNe, gIsN, gNotN, scD, seqD_t, seqD_l, seqD_f, isNonD, List.nodup_cons, List.mem_cons, List.not_mem_nil, or_false, not_false_eq_true, Nat.reduceEqDiff, L3.Keeps, ends, wipeD, List.replicate, List.cons_append, List.nil_append, List.append_nil, List.getElem?_cons_zero, List.getElem?_cons_succ, List.set_cons_zero, List.set_cons_succ, List.getD_cons_zero, List.getD_cons_succ, List.length_cons, List.length_nil, List.nodup_nil, Option.some.injEq, Cell.dat.injEq, Cell.own.injEq, Cont.lst.injEq, D.bl.injEq, D.int.injEq, D.str.injEq, D.tup.injEq, D.lst.injEq, Arg.d.injEq, List.cons.injEq, exists_and_left, exists_and_right, exists_eq_left', exists_eq_left, exists_eq_right, exists_eq_right', exists_eq, exists_eq', and_true, true_and, and_assoc, and_self, exists_const, reduceCtorEq]
    simp only [Bool.not_true, Bool.false_eq_true, false_implies, true_implies, true_and]
    refine c1_is_list_ok hd (by omega) (gAll_map ?_)
    cases ht : ds.all isTh with
    | false =>
      have e1 : isLi (.tup ds) = false := by simp only [isLi, h', ht]; rfl
      rw [e1] at hq
      simp only [wListRg1, wListRg2, wRngDown, wZipK, gInL, gNotInT, wCatOwn, gIsB, gNotB, D.adr.injEq, Cont.pool.injEq, ixN31, ne_eq, List.map_cons, List.map_nil, wPoolOpen, wPoolClose, wPop0, wPopTo, wListOwn, wRemove, wRaise0, wRaise1, wAugOwn, wEnumL, wTru, wSlA, gCatA, gLtT, gLeT, wFrz, wChain3, wAttr, wMkF, wEnumT, wRevT, wDict0, wDict1, numD3, Nat.reduceAdd, atI0, atI1, atI2, atI3, atI4, ixN51, ixN52, ixN53, List.length_map, wNever, scal, V.int.injEq, V.str.injEq, V.bl.injEq, wSq, wNext, wBreak, wCont, wDrop, wRet, wRetN, wIfS, wAsg, wPar, wLstOwn, wAppend, wSetOwn, wIxOwn, wPeek, wRetOwn, wRetFr, wFor, wB, wNot, wAnd, wOr, wAndV, wOrV, wNotV, wIf, wChain, wNil, wCons, wCB, wTup, wLst, wNoPart, wPart, wSlT, wSlL, wSeq, wRng1, wRng2, wZip, wName, wNilT, wConsT, wTupT, wYes, wNeg, wVar, wC, wOp, wcNil, wcCons, wcOwn, wCall, wCallOwn, slots, cellsOf, OwnArgs, putBack, g2I, g2IC, gLen, gAbs, gGcd, gInt1, gTupleOf, gListOf, gIx, gCatT, gCat, gEq, gNe, gIsN, gNotN, scD, seqD_t, seqD_l, seqD_f, isNonD, List.nodup_cons, List.mem_cons, List.not_mem_nil, or_false, not_false_eq_true, Nat.reduceEqDiff, L3.Keeps, ends, wipeD, List.replicate, List.cons_append, List.nil_append, List.append_nil, List.getElem?_cons_zero, List.getElem?_cons_succ, List.set_cons_zero, List.set_cons_succ, List.getD_cons_zero, List.getD_cons_succ, List.length_cons, List.length_nil, List.nodup_nil, Option.some.injEq, Cell.dat.injEq, Cell.own.injEq, Cont.lst.injEq, D.bl.injEq, D.int.injEq, D.str.injEq, D.tup.injEq, D.lst.injEq, Arg.d.injEq, List.cons.injEq, exists_and_left, exists_and_right, exists_eq_left', exists_eq_left, exists_eq_right, exists_eq_right', exists_eq, exists_eq', and_true, true_and, and_assoc, and_self, exists_const, reduceCtorEq]
      simp_all
    | true =>
      have e1 : isLi (.tup ds) = ascP ds := by simp only [isLi, h', ht]; rfl
      rw [e1] at hq
      simp only [wListRg1, wListRg2, wRngDown, wZipK, gInL, gNotInT, wCatOwn, gIsB, gNotB, D.adr.injEq, Cont.pool.injEq, ixN31, ne_eq, List.map_cons, List.map_nil, wPoolOpen, wPoolClose, wPop0, wPopTo, wListOwn, wRemove, wRaise0, wRaise1, wAugOwn, wEnumL, wTru, wSlA, gCatA, gLtT, gLeT, wFrz, wChain3, wAttr, wMkF, wEnumT, wRevT, wDict0, wDict1, numD3, Nat.reduceAdd, atI0, atI1, atI2, atI3, atI4, ixN51, ixN52, ixN53, List.length_map, wNever, scal, V.int.injEq, V.str.injEq, V.bl.injEq, wSq, wNext, wBreak, wCont, wDrop, wRet, wRetN, wIfS, wAsg, wPar, wLstOwn, wAppend, wSetOwn, wIxOwn, wPeek, wRetOwn, wRetFr, wFor, wB, wNot, wAnd, wOr, wAndV, wOrV, wNotV, wIf, wChain, wNil, wCons, wCB, wTup, wLst, wNoPart, wPart, wSlT, wSlL, wSeq, wRng1, wRng2, wZip, wName, wNilT, wConsT, wTupT, wYes, wNeg, wVar, wC, wOp, wcNil, wcCons, wcOwn, wCall, wCallOwn, slots, cellsOf, OwnArgs, putBack, g2I, g2IC, gLen, gAbs, gGcd, gInt1, gTupleOf, gListOf, gIx, gCatT, gCat, gEq, gNe, gIsN, gNotN, scD, seqD_t, seqD_l, seqD_f, isNonD, List.nodup_cons, List.mem_cons, List.not_mem_nil, or_false, not_false_eq_true, Nat.reduceEqDiff, L3.Keeps, ends, wipeD, List.replicate, List.cons_append, List.nil_append, List.append_nil, List.getElem?_cons_zero, List.getElem?_cons_succ, List.set_cons_zero, List.set_cons_succ, List.getD_cons_zero, List.getD_cons_succ, List.length_cons, List.length_nil, List.nodup_nil, Option.some.injEq, Cell.dat.injEq, Cell.own.injEq, Cont.lst.injEq, D.bl.injEq, D.int.injEq, D.str.injEq, D.tup.injEq, D.lst.injEq, Arg.d.injEq, List.cons.injEq, exists_and_left, exists_and_right, exists_eq_left', exists_eq_left, exists_eq_right, exists_eq_right', exists_eq, exists_eq', and_true, true_and, and_assoc, and_self, exists_const, reduceCtorEq]
      simp only [Bool.not_true, Bool.false_eq_true, false_implies, true_implies, true_and]
      refine c2_is_list_ok (by omega) (by omega) (by simpa using ht) (gAll_map ?_)
      simp only [wListRg1, wListRg2, wRngDown, wZipK, gInL, gNotInT, wCatOwn, gIsB, gNotB, D.adr.injEq, Cont.pool.injEq, ixN31, ne_eq, List.map_cons, List.map_nil, wPoolOpen, wPoolClose, wPop0, wPopTo, wListOwn, wRemove, wRaise0, wRaise1, wAugOwn, wEnumL, wTru, wSlA, gCatA, gLtT, gLeT, wFrz, wChain3, wAttr, wMkF, wEnumT, wRevT, wDict0, wDict1, numD3, Nat.reduceAdd, atI0, atI1, atI2, atI3, atI4, ixN51, ixN52, ixN53, List.length_map, wNever, scal, V.int.injEq, V.str.injEq, V.bl.injEq, wSq, wNext, wBreak, wCont, wDrop, wRet, wRetN, wIfS, wAsg, wPar, wLstOwn, wAppend, wSetOwn, wIxOwn, wPeek, wRetOwn, wRetFr, wFor, wB, wNot, wAnd, wOr, wAndV, wOrV, wNotV, wIf, wChain, wNil, wCons, wCB, wTup, wLst, wNoPart, wPart, wSlT, wSlL, wSeq, wRng1, wRng2, wZip, wName, wNilT, wConsT, wTupT, wYes, wNeg, wVar, wC, wOp, wcNil, wcCons, wcOwn, wCall, wCallOwn, slots, cellsOf, OwnArgs, putBack, g2I, g2IC, gLen, gAbs, gGcd, gInt1, gTupleOf, gListOf, gIx, gCatT, gCat, gEq, gNe, gIsN, gNotN, scD, seqD_t, seqD_l, seqD_f, isNonD, List.nodup_cons, List.mem_cons, List.not_mem_nil, or_false, not_false_eq_true, Nat.reduceEqDiff, L3.Keeps, ends, wipeD, List.replicate, List.cons_append, List.nil_append, List.append_nil, List.getElem?_cons_zero, List.getElem?_cons_succ, List.set_cons_zero, List.set_cons_succ, List.getD_cons_zero, List.getD_cons_succ, List.length_cons, List.length_nil, List.nodup_nil, Option.some.injEq, Cell.dat.injEq, Cell.own.injEq, Cont.lst.injEq, D.bl.injEq, D.int.injEq, D.str.injEq, D.tup.injEq, D.lst.injEq, Arg.d.injEq, List.cons.injEq, exists_and_left, exists_and_right, exists_eq_left', exists_eq_left, exists_eq_right, exists_eq_right', exists_eq, exists_eq', and_true, true_and, and_assoc, and_self, exists_const, reduceCtorEq]
      exact hq
theorem li_shape {d : D} (h : isLi d = true) : ∃ ds, d = .tup ds ∧ 1 ≤ ds.length ∧ ds.length ≤ 6 ∧ ∀ x ∈ ds, isTh x = true := by
  cases d <;> simp [isLi] at h
  obtain ⟨⟨h1, h2⟩, h3⟩ := h
  simp [isTupOf] at h1
  exact ⟨_, rfl, by omega, by omega, by simpa using h2⟩
theorem ok_is_list (T : Txt K mg) : FnOk P w K mg base (L2.CX P w) 4 T.f_is_list T.fd_is_list ["thing"] (spOf K 1 (fs_is_list K)) := by
  refine def_ok T.F_is_list sc_is_list (wb := w_is_list K) pure_is_list ?_
  intro cdv A outer s H E hr tk
  exact ⟨_, (pss_cons (ps_if (pt_not (pt_val (pe_callS (ok_is_tuple_of T) (hr.mono (by decide)) rfl T.g_is_tuple_of T.k_is_tuple_of T.b_is_tuple_of (fun σ => passAt tk σ) (pa_cons pe_int (pa_cons (pe_glob (v := .int 6) rfl T.c_MOST_THRESHOLDS ⟨_, rfl⟩) (pa_cons (pv 0) pa_nil))))))
        (pss_one (ps_ret pe_bl))
        pss_nil)
      (pss_cons (ps_if (pt_not (pt_val (pe_callB (cr_all (by rfl)) (by rfl) T.z_all (by decide +kernel) (pa_cons (pe_lc (own := [("threshold", 1)]) (g := (gName 1)) (tt := tYes) (te := (tCallS (spOf K 1 (fs_is_threshold K)) (L2.WE W0) (tCons (tVar 1) tNil))) rfl sc_is_list.nd (pi_seq (pv 0)) (blkOk_by (N := ["thing", "threshold", "low", "high"]) (sc := defScope s_is_list) (by decide +kernel)) (fun _ _ _ _ _ => (pg_name (i := 1) sc_is_list.nd rfl (by first | exact Or.inl rfl | exact Or.inr rfl))) (fun _ _ _ _ _ => pts_nil) (fun _ _ _ _ _ => (pe_callS (ok_is_threshold T) (hr.mono (by decide)) rfl T.g_is_threshold T.k_is_threshold T.b_is_threshold (fun σ => passAt L2.takes0 σ) (pa_cons (pv 1) pa_nil)))) pa_nil))))
        (pss_one (ps_ret pe_bl))
        pss_nil)
      (pss_one (ps_ret (pe_callB (cr_all (by rfl)) (by rfl) T.z_all (by decide +kernel) (pa_cons (pe_lc (own := [("low", 2), ("high", 3)]) (g := (gTup K 2 (gCons (gName 2) (gCons (gName 3) gNil)))) (tt := tYes) (te := (tCallS (spOf K 2 (fs_at_most K)) (L2.WE W0) (tCons (tVar 2) (tCons (tVar 3) tNil)))) rfl sc_is_list.nd (RZ.pi_zipA (by rfl) T.z_zip (pa_cons (pv 0) (pa_cons (pe_slice sl_tupA (pv 0) (po_some pe_int) po_none) pa_nil))) (blkOk_by (N := ["thing", "threshold", "low", "high"]) (sc := defScope s_is_list) (by decide +kernel)) (fun _ _ _ _ _ => (pg_tup (by rfl) (pgs_cons (pg_name (i := 2) sc_is_list.nd rfl (by first | exact Or.inl rfl | exact Or.inr rfl)) (pgs_cons (pg_name (i := 3) sc_is_list.nd rfl (by first | exact Or.inl rfl | exact Or.inr rfl)) pgs_nil)))) (fun _ _ _ _ _ => pts_nil) (fun _ _ _ _ _ => (pe_callS (ok_at_most T) (hr.mono (by decide)) rfl T.g_at_most T.k_at_most T.b_at_most (fun σ => passAt L2.takes0 σ) (pa_cons (pv 2) (pa_cons (pv 3) pa_nil))))) pa_nil)))))),
    (ds_seq (ds_if (dt_not (dt_B (de_call (n := 3) (fs := fs_is_tuple_of K) (dac_cons de_int (dac_cons de_int (dac_cons (de_var 0) dac_nil)))))) (ds_ret de_bl) ds_nil)
      (ds_seq (ds_if (dt_not (dt_B (de_cb o_all (da_cons (de_lc (vs := [1]) (wI := (wSeq (wVar 0))) (wg := (wName 1)) (wt := wYes) (we := (wCall 1 (fs_is_threshold K) (wcCons (wVar 1) wcNil))) (di_seq (de_var 0)) (dg_name 1) dt_yes (de_call (n := 1) (fs := fs_is_threshold K) (dac_cons (de_var 1) dac_nil)) (by decide)) da_nil)))) (ds_ret de_bl) ds_nil)
      (ds_ret (de_cb o_all (da_cons (de_lc (vs := [2, 3]) (wI := (wZip (wCons (wVar 0) (wCons (wSlA (wVar 0) (wPart (wC (.int 1))) wNoPart) wNil)))) (wg := (wTupT 2 (wConsT (wName 2) (wConsT (wName 3) wNilT)))) (wt := wYes) (we := (wCall 2 (fs_at_most K) (wcCons (wVar 2) (wcCons (wVar 3) wcNil)))) (di_zip (da_cons (de_var 0) (da_cons (de_slA (de_var 0) (do_part de_int) do_no) da_nil))) (dg_tup (n := 2) (dgs_cons (dg_name 2) (dgs_cons (dg_name 3) dgs_nil))) dt_yes (de_call (n := 2) (fs := fs_at_most K) (dac_cons (de_var 2) (dac_cons (de_var 3) dac_nil))) (by decide)) da_nil)))))⟩
abbrev s_ascends : Stmt := topS 6
theorem sc_ascends : FnScope ["things", "low", "high"] ["things"] (defScope s_ascends) := ⟨rfl, rfl, rfl, by decide +kernel, rfl, by decide +kernel, by decide +kernel⟩
def c1_ascends (K : PySem.W.Frag) : EW := wLc (wZip (wCons (wVar 0) (wCons (wSlA (wVar 0) (wPart (wC (.int 1))) wNoPart) wNil))) (wTupT 2 (wConsT (wName 1) (wConsT (wName 2) wNilT))) wYes (wOp gLtT (wVar 1) (wVar 2)) [1, 2]
def w_ascends (K : PySem.W.Frag) : SW := (wRet (wCB gAll (wCons (c1_ascends K) wNil)))
def ltP : D → Bool | .tup [.tup [.int a, .int b], .tup [.int c, .int d]] => HT.lexLt [a, b] [c, d] | _ => false
def ascJ (ds : List D) : Bool := (zipD ds (ds.drop 1)).all ltP
def PairD (d : D) : Prop := ∃ a b : Int, d = .tup [.int a, .int b]
def fs_ascends (K : PySem.W.Frag) : FS := fun cs q _ => ∃ ds : List D, cs = [.dat (.tup ds)] ∧ ds.length ≤ 900 ∧ (∀ d ∈ ds, PairD d) ∧ q (.bl (ascJ ds)) cs
theorem c1_ascends_ok {ds : List D} {c1 c2 : Cell} {q : D → List Cell → Prop} {e : Xn → List Cell → Prop} (hn : ds.length ≤ 900) (hp : ∀ d ∈ ds, PairD d)
    (hq : q (.lst ((zipD ds (ds.drop 1)).map fun d => .bl (ltP d))) [.dat (.tup ds), .any, .any]) : c1_ascends K [.dat (.tup ds), c1, c2] q e := by
  unfold c1_ascends wLc
  refine ⟨_, rfl, _, rfl, 1, rfl, ds, rfl, ds, ds.drop 1, .inl (by rw [cutD1]), lc_fm (fun d => .bl (ltP d)) (fun _ => true) ?_ (fun d hm k1 k2 h1 _ => ?_) (by rw [filter_true]; exact hq)⟩
  · unfold zipD
    rw [List.length_zipWith]
    omega
  · obtain ⟨x, y, hx, hy, rfl⟩ := zip_mem hm
    obtain ⟨a, b, rfl⟩ := hp x hx
    obtain ⟨c, d, rfl⟩ := hp y (List.mem_of_mem_drop hy)
    simp only [wListRg1, wListRg2, wRngDown, wZipK, gInL, gNotInT, wCatOwn, gIsB, gNotB, D.adr.injEq, Cont.pool.injEq, ixN31, ne_eq, List.map_cons, List.map_nil, wPoolOpen, wPoolClose, wPop0, wPopTo, wListOwn, wRemove, wRaise0, wRaise1, wAugOwn, wEnumL, wTru, wSlA, gCatA, gLtT, gLeT, wFrz, wChain3, wAttr, wMkF, wEnumT, wRevT, wDict0, wDict1, numD3, Nat.reduceAdd, atI0, atI1, atI2, atI3, atI4, ixN51, ixN52, ixN53, List.length_map, wNever, scal, V.int.injEq, V.str.injEq, V.bl.injEq, wSq, wNext, wBreak, wCont, wDrop, wRet, wRetN, wIfS, wAsg, wPar, wLstOwn, wAppend, wSetOwn, wIxOwn, wPeek, wRetOwn, wRetFr, wFor, wB, wNot, wAnd, wOr, wAndV, wOrV, wNotV, wIf, wChain, wNil, wCons, wCB, wTup, wLst, wNoPart, wPart, wSlT, wSlL, wSeq, wRng1, wRng2, wZip, wName, wNilT, wConsT, wTupT, wYes, wNeg, wVar, wC, wOp, wcNil, wcCons, wcOwn, wCall, wCallOwn, slots, cellsOf, OwnArgs, putBack, g2I, g2IC, gLen, gAbs, gGcd, gInt1, gTupleOf, gListOf, gIx, gCatT, gCat, gEq, gNe, gIsN, gNotN, scD, seqD_t, seqD_l, seqD_f, isNonD, List.nodup_cons, List.mem_cons, List.not_mem_nil, or_false, not_false_eq_true, Nat.reduceEqDiff, L3.Keeps, ends, wipeD, List.replicate, List.cons_append, List.nil_append, List.append_nil, List.getElem?_cons_zero, List.getElem?_cons_succ, List.set_cons_zero, List.set_cons_succ, List.getD_cons_zero, List.getD_cons_succ, List.length_cons, List.length_nil, List.nodup_nil, Option.some.injEq, Cell.dat.injEq, Cell.own.injEq, Cont.lst.injEq, D.bl.injEq, D.int.injEq, D.str.injEq, D.tup.injEq, D.lst.injEq, Arg.d.injEq, List.cons.injEq, exists_and_left, exists_and_right, exists_eq_left', exists_eq_left, exists_eq_right, exists_eq_right', exists_eq, exists_eq', and_true, true_and, and_assoc, and_self, exists_const, reduceCtorEq]
    simp only [true_implies]
    exact ⟨⟨[a, b], rfl, [c, d], rfl, h1 rfl _ rfl⟩, fun z => z.elim⟩
theorem pure_ascends : PureD 1 2 (fs_ascends K) (w_ascends K) := by
  rintro cs q e - ⟨ds, rfl, hn, hp, hq⟩
  simp only [w_ascends, wListRg1, wListRg2, wRngDown, wZipK, gInL, gNotInT, wCatOwn, gIsB, gNotB, D.adr.injEq, Cont.pool.injEq, ixN31, ne_eq, List.map_cons, List.map_nil, wPoolOpen, wPoolClose, wPop0, wPopTo, wListOwn, wRemove, wRaise0, wRaise1, wAugOwn, wEnumL, wTru, wSlA, gCatA, gLtT, gLeT, wFrz, wChain3, wAttr, wMkF, wEnumT, wRevT, wDict0, wDict1, numD3, Nat.reduceAdd, atI0, atI1, atI2, atI3, atI4, ixN51, ixN52, ixN53, List.length_map, wNever, scal, V.int.injEq, V.str.injEq, V.bl.injEq, wSq, wNext, wBreak, wCont, wDrop, wRet, wRetN, wIfS, wAsg, wPar, wLstOwn, wAppend, wSetOwn, wIxOwn, wPeek, wRetOwn, wRetFr, wFor, wB, wNot, wAnd, wOr, wAndV, wOrV, wNotV, wIf, wChain, wNil, wCons, wCB, wTup, wLst, wNoPart, wPart, wSlT, wSlL, wSeq, wRng1, wRng2, wZip, wName, wNilT, wConsT, wTupT, wYes, wNeg, wVar, wC, wOp, wcNil, wcCons, wcOwn, wCall, wCallOwn, slots, cellsOf, OwnArgs, putBack, g2I, g2IC, gLen, gAbs, gGcd, gInt1, gTupleOf, gListOf, gIx, gCatT, gCat, gEq, gNe, gIsN, gNotN, scD, seqD_t, seqD_l, seqD_f, isNonD, List.nodup_cons, List.mem_cons, List.not_mem_nil, or_false, not_false_eq_true, Nat.reduceEqDiff, L3.Keeps, ends, wipeD, List.replicate, List.cons_append, List.nil_append, List.append_nil, List.getElem?_cons_zero, List.getElem?_cons_succ, List.set_cons_zero, List.set_cons_succ, List.getD_cons_zero, List.getD_cons_succ, List.length_cons, List.length_nil, List.nodup_nil, Option.some.injEq, Cell.dat.injEq, Cell.own.injEq, Cont.lst.injEq, D.bl.injEq, D.int.injEq, D.str.injEq, D.tup.injEq, D.lst.injEq, Arg.d.injEq, List.cons.injEq, exists_and_left, exists_and_right, exists_eq_left', exists_eq_left, exists_eq_right, exists_eq_right', exists_eq, exists_eq', and_true, true_and, and_assoc, and_self, exists_const, reduceCtorEq]
  refine c1_ascends_ok hn hp (gAll_map ?_)
  simp only [wListRg1, wListRg2, wRngDown, wZipK, gInL, gNotInT, wCatOwn, gIsB, gNotB, D.adr.injEq, Cont.pool.injEq, ixN31, ne_eq, List.map_cons, List.map_nil, wPoolOpen, wPoolClose, wPop0, wPopTo, wListOwn, wRemove, wRaise0, wRaise1, wAugOwn, wEnumL, wTru, wSlA, gCatA, gLtT, gLeT, wFrz, wChain3, wAttr, wMkF, wEnumT, wRevT, wDict0, wDict1, numD3, Nat.reduceAdd, atI0, atI1, atI2, atI3, atI4, ixN51, ixN52, ixN53, List.length_map, wNever, scal, V.int.injEq, V.str.injEq, V.bl.injEq, wSq, wNext, wBreak, wCont, wDrop, wRet, wRetN, wIfS, wAsg, wPar, wLstOwn, wAppend, wSetOwn, wIxOwn, wPeek, wRetOwn, wRetFr, wFor, wB, wNot, wAnd, wOr, wAndV, wOrV, wNotV, wIf, wChain, wNil, wCons, wCB, wTup, wLst, wNoPart, wPart, wSlT, wSlL, wSeq, wRng1, wRng2, wZip, wName, wNilT, wConsT, wTupT, wYes, wNeg, wVar, wC, wOp, wcNil, wcCons, wcOwn, wCall, wCallOwn, slots, cellsOf, OwnArgs, putBack, g2I, g2IC, gLen, gAbs, gGcd, gInt1, gTupleOf, gListOf, gIx, gCatT, gCat, gEq, gNe, gIsN, gNotN, scD, seqD_t, seqD_l, seqD_f, isNonD, List.nodup_cons, List.mem_cons, List.not_mem_nil, or_false, not_false_eq_true, Nat.reduceEqDiff, L3.Keeps, ends, wipeD, List.replicate, List.cons_append, List.nil_append, List.append_nil, List.getElem?_cons_zero, List.getElem?_cons_succ, List.set_cons_zero, List.set_cons_succ, List.getD_cons_zero, List.getD_cons_succ, List.length_cons, List.length_nil, List.nodup_nil, Option.some.injEq, Cell.dat.injEq, Cell.own.injEq, Cont.lst.injEq, D.bl.injEq, D.int.injEq, D.str.injEq, D.tup.injEq, D.lst.injEq, Arg.d.injEq, List.cons.injEq, exists_and_left, exists_and_right, exists_eq_left', exists_eq_left, exists_eq_right, exists_eq_right', exists_eq, exists_eq', and_true, true_and, and_assoc, and_self, exists_const, reduceCtorEq]
  exact hq
theorem ok_ascends (T : Txt K mg) : FnOk P w K mg base (L2.CX P w) 1 T.f_ascends T.fd_ascends ["things"] (spOf K 1 (fs_ascends K)) := by
  refine def_ok T.F_ascends sc_ascends (wb := w_ascends K) pure_ascends ?_
  intro cdv A outer s H E hr tk
  exact ⟨_, (pss_one (ps_ret (pe_callB (cr_all (by rfl)) (by rfl) T.z_all (by decide +kernel) (pa_cons (pe_lc (own := [("low", 1), ("high", 2)]) (g := (gTup K 2 (gCons (gName 1) (gCons (gName 2) gNil)))) (tt := tYes) (te := (tOp (rLtT K) (tVar 1) (tVar 2))) rfl sc_ascends.nd (RZ.pi_zipA (by rfl) T.z_zip (pa_cons (pv 0) (pa_cons (pe_slice sl_tupA (pv 0) (po_some pe_int) po_none) pa_nil))) (blkOk_by (N := ["things", "low", "high"]) (sc := defScope s_ascends) (by decide +kernel)) (fun _ _ _ _ _ => (pg_tup (by rfl) (pgs_cons (pg_name (i := 1) sc_ascends.nd rfl (by first | exact Or.inl rfl | exact Or.inr rfl)) (pgs_cons (pg_name (i := 2) sc_ascends.nd rfl (by first | exact Or.inl rfl | exact Or.inr rfl)) pgs_nil)))) (fun _ _ _ _ _ => pts_nil) (fun _ _ _ _ _ => (pe_cmpR (op_ltT (Nat.lt_of_le_of_lt (Nat.le_add_right _ 64) hr.units)) (pv 1) (pv 2) (nomark _)))) pa_nil)))),
    (ds_ret (de_cb o_all (da_cons (de_lc (vs := [1, 2]) (wI := (wZip (wCons (wVar 0) (wCons (wSlA (wVar 0) (wPart (wC (.int 1))) wNoPart) wNil)))) (wg := (wTupT 2 (wConsT (wName 1) (wConsT (wName 2) wNilT)))) (wt := wYes) (we := (wOp gLtT (wVar 1) (wVar 2))) (di_zip (da_cons (de_var 0) (da_cons (de_slA (de_var 0) (do_part de_int) do_no) da_nil))) (dg_tup (n := 2) (dgs_cons (dg_name 1) (dgs_cons (dg_name 2) dgs_nil))) dt_yes (de_op o_ltT (de_var 1) (de_var 2)) (by decide)) da_nil)))⟩
abbrev s_is_width : Stmt := topS 19
theorem sc_is_width : FnScope ["thing"] ["thing"] (defScope s_is_width) := ⟨rfl, rfl, rfl, by decide +kernel, rfl, by decide +kernel, by decide +kernel⟩
def w_is_width (K : PySem.W.Frag) : SW := (wRet (wCall 3 (fs_is_between K) (wcCons (wC (.int 0)) (wcCons (wC (.int 12)) (wcCons (wVar 0) wcNil)))))
def fs_is_width (K : PySem.W.Frag) : FS := fun cs q _ => ∃ d, cs = [.dat d] ∧ OkD K d ∧ q (.bl (isBetw 0 12 d)) cs
theorem pure_is_width : PureD 1 0 (fs_is_width K) (w_is_width K) := by
  rintro cs q e - ⟨d, rfl, hd, hq⟩
  simp only [w_is_width, fs_is_between, hd, wListRg1, wListRg2, wRngDown, wZipK, gInL, gNotInT, wCatOwn, gIsB, gNotB, D.adr.injEq, Cont.pool.injEq, ixN31, ne_eq, List.map_cons, List.map_nil, wPoolOpen, wPoolClose, wPop0, wPopTo, wListOwn, wRemove, wRaise0, wRaise1, wAugOwn, wEnumL, wTru, wSlA, gCatA, gLtT, gLeT, wFrz, wChain3, wAttr, wMkF, wEnumT, wRevT, wDict0, wDict1, numD3, Nat.reduceAdd, atI0, atI1, atI2, atI3, atI4, ixN51, ixN52, ixN53, List.length_map, wNever, scal, V.int.injEq, V.str.injEq, V.bl.injEq, wSq, wNext, wBreak, wCont, wDrop, wRet, wRetN, wIfS, wAsg, wPar, wLstOwn, wAppend, wSetOwn, wIxOwn, wPeek, wRetOwn, wRetFr, wFor, wB, wNot, wAnd, wOr, wAndV, wOrV, wNotV, wIf, wChain, wNil, wCons, wCB, wTup, wLst, wNoPart, wPart, wSlT, wSlL, wSeq, wRng1, wRng2, wZip, wName, wNilT, wConsT, wTupT, wYes, wNeg, wVar, wC, wOp, wcNil, wcCons, wcOwn, wCall, wCallOwn, slots, cellsOf, OwnArgs, putBack, g2I, g2IC, gLen, gAbs, gGcd, gInt1, gTupleOf, gListOf, gIx, gCatT, gCat, gEq, gNe, gIsN, gNotN, scD, seqD_t, seqD_l, seqD_f, isNonD, List.nodup_cons, List.mem_cons, List.not_mem_nil, or_false, not_false_eq_true, Nat.reduceEqDiff, L3.Keeps, ends, wipeD, List.replicate, List.cons_append, List.nil_append, List.append_nil, List.getElem?_cons_zero, List.getElem?_cons_succ, List.set_cons_zero, List.set_cons_succ, List.getD_cons_zero, List.getD_cons_succ, List.length_cons, List.length_nil, List.nodup_nil, Option.some.injEq, Cell.dat.injEq, Cell.own.injEq, Cont.lst.injEq, D.bl.injEq, D.int.injEq, D.str.injEq, D.tup.injEq, D.lst.injEq, Arg.d.injEq, List.cons.injEq, exists_and_left, exists_and_right, exists_eq_left', exists_eq_left, exists_eq_right, exists_eq_right', exists_eq, exists_eq', and_true, true_and, and_assoc, and_self, exists_const, reduceCtorEq]
  exact hq
theorem ok_is_width (T : Txt K mg) : FnOk P w K mg base (L2.CX P w) 3 T.f_is_width T.fd_is_width ["thing"] (spOf K 1 (fs_is_width K)) := by
  refine def_ok T.F_is_width sc_is_width (wb := w_is_width K) pure_is_width ?_
  intro cdv A outer s H E hr tk
  exact ⟨_, (pss_one (ps_ret (pe_callS (ok_is_between T) (hr.mono (by decide)) rfl T.g_is_between T.k_is_between T.b_is_between (fun σ => passAt tk σ) (pa_cons pe_int (pa_cons (pe_glob (v := .int 12) rfl T.c_MOST_WIDTH ⟨_, rfl⟩) (pa_cons (pv 0) pa_nil)))))),
    (ds_ret (de_call (n := 3) (fs := fs_is_between K) (dac_cons de_int (dac_cons de_int (dac_cons (de_var 0) dac_nil)))))⟩
abbrev s_is_widths : Stmt := topS 23
theorem sc_is_widths : FnScope ["thing", "width"] ["thing"] (defScope s_is_widths) := ⟨rfl, rfl, rfl, by decide +kernel, rfl, by decide +kernel, by decide +kernel⟩
def c1_is_widths (K : PySem.W.Frag) : EW := wLc (wSeq (wVar 0)) (wName 1) wYes (wCall 1 (fs_is_width K) (wcCons (wVar 1) wcNil)) [1]
def w_is_widths (K : PySem.W.Frag) : SW := (wRet (wAndV (wCall 3 (fs_is_tuple_of K) (wcCons (wC (.int 1)) (wcCons (wC (.int 12)) (wcCons (wVar 0) wcNil)))) (wCB gAll (wCons (c1_is_widths K) wNil))))
def isWs : D → Bool | .tup ds => isTupOf 1 12 (.tup ds) && ds.all (isBetw 0 12) | _ => false
def fs_is_widths (K : PySem.W.Frag) : FS := fun cs q _ => ∃ d, cs = [.dat d] ∧ OkD K d ∧ q (.bl (isWs d)) cs
theorem c1_is_widths_ok {ds : List D} {c2 : Cell} {q : D → List Cell → Prop} {e : Xn → List Cell → Prop} (hd : OkD K (.tup ds)) (hn : ds.length ≤ 1000)
    (hq : q (.lst (ds.map fun d => .bl (isBetw 0 12 d))) [.dat (.tup ds), .any]) : c1_is_widths K [.dat (.tup ds), c2] q e := by
  unfold c1_is_widths wLc
  refine ⟨_, rfl, ds, rfl, lc_fm (fun d => .bl (isBetw 0 12 d)) (fun _ => true) hn (fun d hm k1 k2 h1 _ => ?_) (by rw [filter_true]; exact hq)⟩
  simp only [fs_is_width, okTup hd hm, wListRg1, wListRg2, wRngDown, wZipK, gInL, gNotInT, wCatOwn, gIsB, gNotB, D.adr.injEq, Cont.pool.injEq, ixN31, ne_eq, List.map_cons, List.map_nil, wPoolOpen, wPoolClose, wPop0, wPopTo, wListOwn, wRemove, wRaise0, wRaise1, wAugOwn, wEnumL, wTru, wSlA, gCatA, gLtT, gLeT, wFrz, wChain3, wAttr, wMkF, wEnumT, wRevT, wDict0, wDict1, numD3, Nat.reduceAdd, atI0, atI1, atI2, atI3, atI4, ixN51, ixN52, ixN53, List.length_map, wNever, scal, V.int.injEq, V.str.injEq, V.bl.injEq, wSq, wNext, wBreak, wCont, wDrop, wRet, wRetN, wIfS, wAsg, wPar, wLstOwn, wAppend, wSetOwn, wIxOwn, wPeek, wRetOwn, wRetFr, wFor, wB, wNot, wAnd, wOr, wAndV, wOrV, wNotV, wIf, wChain, wNil, wCons, wCB, wTup, wLst, wNoPart, wPart, wSlT, wSlL, wSeq, wRng1, wRng2, wZip, wName, wNilT, wConsT, wTupT, wYes, wNeg, wVar, wC, wOp, wcNil, wcCons, wcOwn, wCall, wCallOwn, slots, cellsOf, OwnArgs, putBack, g2I, g2IC, gLen, gAbs, gGcd, gInt1, gTupleOf, gListOf, gIx, gCatT, gCat, gEq, gNe, gIsN, gNotN, scD, seqD_t, seqD_l, seqD_f, isNonD, List.nodup_cons, List.mem_cons, List.not_mem_nil, or_false, not_false_eq_true, Nat.reduceEqDiff, L3.Keeps, ends, wipeD, List.replicate, List.cons_append, List.nil_append, List.append_nil, List.getElem?_cons_zero, List.getElem?_cons_succ, List.set_cons_zero, List.set_cons_succ, List.getD_cons_zero, List.getD_cons_succ, List.length_cons, List.length_nil, List.nodup_nil, Option.some.injEq, Cell.dat.injEq, Cell.own.injEq, Cont.lst.injEq, D.bl.injEq, D.int.injEq, D.str.injEq, D.tup.injEq, D.lst.injEq, Arg.d.injEq, List.cons.injEq, exists_and_left, exists_and_right, exists_eq_left', exists_eq_left, exists_eq_right, exists_eq_right', exists_eq, exists_eq', and_true, true_and, and_assoc, and_self, exists_const, reduceCtorEq]
  simp only [true_implies]
  refine ⟨h1 rfl _ rfl, fun z => nomatch z⟩
theorem pure_is_widths : PureD 1 1 (fs_is_widths K) (w_is_widths K) := by
  rintro cs q e - ⟨d, rfl, hd, hq⟩
  cases h : isTupOf 1 12 d with
  | false =>
    have e1 : isWs d = false := by cases d <;> simp_all [isWs]
    rw [e1] at hq
    simp only [w_is_widths, fs_is_tuple_of, h, hd, wListRg1, wListRg2, wRngDown, wZipK, gInL, gNotInT, wCatOwn, gIsB, gNotB, D.adr.injEq, Cont.pool.injEq, ixN31, ne_eq, List.map_cons, List.map_nil, wPoolOpen, wPoolClose, wPop0, wPopTo, wListOwn, wRemove, wRaise0, wRaise1, wAugOwn, wEnumL, wTru, wSlA, gCatA, gLtT, gLeT, wFrz, wChain3, wAttr, wMkF, wEnumT, wRevT, wDict0, wDict1, numD3, Nat.reduceAdd, atI0, atI1, atI2, atI3, atI4, ixN51, ixN52, ixN53, List.length_map, wNever, scal, V.int.injEq, V.str.injEq, V.bl.injEq, wSq, wNext, wBreak, wCont, wDrop, wRet, wRetN, wIfS, wAsg, wPar, wLstOwn, wAppend, wSetOwn, wIxOwn, wPeek, wRetOwn, wRetFr, wFor, wB, wNot, wAnd, wOr, wAndV, wOrV, wNotV, wIf, wChain, wNil, wCons, wCB, wTup, wLst, wNoPart, wPart, wSlT, wSlL, wSeq, wRng1, wRng2, wZip, wName, wNilT, wConsT, wTupT, wYes, wNeg, wVar, wC, wOp, wcNil, wcCons, wcOwn, wCall, wCallOwn, slots, cellsOf, OwnArgs, putBack, g2I, g2IC, gLen, gAbs, gGcd, gInt1, gTupleOf, gListOf, gIx, gCatT, gCat, gEq, gNe, gIsN, gNotN, scD, seqD_t, seqD_l, seqD_f, isNonD, List.nodup_cons, List.mem_cons, List.not_mem_nil, or_false, not_false_eq_true, Nat.reduceEqDiff, L3.Keeps, ends, wipeD, List.replicate, List.cons_append, List.nil_append, List.append_nil, List.getElem?_cons_zero, List.getElem?_cons_succ, List.set_cons_zero, List.set_cons_succ, List.getD_cons_zero, List.getD_cons_succ, List.length_cons, List.length_nil, List.nodup_nil, Option.some.injEq, Cell.dat.injEq, Cell.own.injEq, Cont.lst.injEq, D.bl.injEq, D.int.injEq, D.str.injEq, D.tup.injEq, D.lst.injEq, Arg.d.injEq, List.cons.injEq, exists_and_left, exists_and_right, exists_eq_left', exists_eq_left, exists_eq_right, exists_eq_right', exists_eq, exists_eq', and_true, true_and, and_assoc, and_self, exists_const, reduceCtorEq]
    simp_all
  | true =>
    cases d <;> simp [isTupOf] at h
    rename_i ds
    have h' : isTupOf 1 12 (.tup ds) = true := by simp [isTupOf]; omega
    simp only [w_is_widths, fs_is_tuple_of, h', hd, wListRg1, wListRg2, wRngDown, wZipK, gInL, gNotInT, wCatOwn, gIsB, gNotB, D.adr.injEq, Cont.pool.injEq, ixN31, ne_eq, List.map_cons, List.map_nil, wPoolOpen, wPoolClose, wPop0, wPopTo, wListOwn, wRemove, wRaise0, wRaise1, wAugOwn, wEnumL, wTru, wSlA, gCatA, gLtT, gLeT, wFrz, wChain3, wAttr, wMkF, wEnumT, wRevT, wDict0, wDict1, numD3, Nat.reduceAdd, atI0, atI1, atI2, atI3, atI4, ixN51, ixN52, ixN53, List.length_map, wNever, scal, V.int.injEq, V.str.injEq, V.bl.injEq, wSq, wNext, wBreak, wCont, wDrop, wRet, wRetN, wIfS, wAsg, wPar, wLstOwn, wAppend, wSetOwn, wIxOwn, wPeek, wRetOwn, wRetFr, wFor, wB, wNot, wAnd, wOr, wAndV, wOrV, wNotV, wIf, wChain, wNil, wCons, wCB, wTup, wLst, wNoPart, wPart, wSlT, wSlL, wSeq, wRng1, wRng2, wZip, wName, wNilT, wConsT, wTupT, wYes, wNeg, wVar, wC, wOp, wcNil, wcCons, wcOwn, wCall, wCallOwn, slots, cellsOf, OwnArgs, putBack, g2I, g2IC, gLen, gAbs, gGcd, gInt1, gTupleOf, gListOf, gIx, gCatT, gCat, gEq, gNe, gIsN, gNotN, scD, seqD_t, seqD_l, seqD_f, isNonD, List.nodup_cons, List.mem_cons, List.not_mem_nil, or_false, not_false_eq_true, Nat.reduceEqDiff, L3.Keeps, ends, wipeD, List.replicate, List.cons_append, List.nil_append, List.append_nil, List.getElem?_cons_zero, List.getElem?_cons_succ, List.set_cons_zero, List.set_cons_succ, List.getD_cons_zero, List.getD_cons_succ, List.length_cons, List.length_nil, List.nodup_nil, Option.some.injEq, Cell.dat.injEq, Cell.own.injEq, Cont.lst.injEq, D.bl.injEq, D.int.injEq, D.str.injEq, D.tup.injEq, D.lst.injEq, Arg.d.injEq, List.cons.injEq, exists_and_left, exists_and_right, exists_eq_left', exists_eq_left, exists_eq_right, exists_eq_right', exists_eq, exists_eq', and_true, true_and, and_assoc, and_self, exists_const, reduceCtorEq]
    simp only [true_implies, reduceCtorEq, false_implies, and_true]
    refine c1_is_widths_ok hd (by omega) (gAll_map ?_)
    have e1 : isWs (.tup ds) = ds.all (isBetw 0 12) := by simp only [isWs, h', Bool.true_and]
    rw [e1] at hq
    simp only [wListRg1, wListRg2, wRngDown, wZipK, gInL, gNotInT, wCatOwn, gIsB, gNotB, D.adr.injEq, Cont.pool.injEq, ixN31, ne_eq, List.map_cons, List.map_nil, wPoolOpen, wPoolClose, wPop0, wPopTo, wListOwn, wRemove, wRaise0, wRaise1, wAugOwn, wEnumL, wTru, wSlA, gCatA, gLtT, gLeT, wFrz, wChain3, wAttr, wMkF, wEnumT, wRevT, wDict0, wDict1, numD3, Nat.reduceAdd, atI0, atI1, atI2, atI3, atI4, ixN51, ixN52, ixN53, List.length_map, wNever, scal, V.int.injEq, V.str.injEq, V.bl.injEq, wSq, wNext, wBreak, wCont, wDrop, wRet, wRetN, wIfS, wAsg, wPar, wLstOwn, wAppend, wSetOwn, wIxOwn, wPeek, wRetOwn, wRetFr, wFor, wB, wNot, wAnd, wOr, wAndV, wOrV, wNotV, wIf, wChain, wNil, wCons, wCB, wTup, wLst, wNoPart, wPart, wSlT, wSlL, wSeq, wRng1, wRng2, wZip, wName, wNilT, wConsT, wTupT, wYes, wNeg, wVar, wC, wOp, wcNil, wcCons, wcOwn, wCall, wCallOwn, slots, cellsOf, OwnArgs, putBack, g2I, g2IC, gLen, gAbs, gGcd, gInt1, gTupleOf, gListOf, gIx, gCatT, gCat, gEq, gNe, gIsN, gNotN, scD, seqD_t, seqD_l, seqD_f, isNonD, List.nodup_cons, List.mem_cons, List.not_mem_nil, or_false, not_false_eq_true, Nat.reduceEqDiff, L3.Keeps, ends, wipeD, List.replicate, List.cons_append, List.nil_append, List.append_nil, List.getElem?_cons_zero, List.getElem?_cons_succ, List.set_cons_zero, List.set_cons_succ, List.getD_cons_zero, List.getD_cons_succ, List.length_cons, List.length_nil, List.nodup_nil, Option.some.injEq, Cell.dat.injEq, Cell.own.injEq, Cont.lst.injEq, D.bl.injEq, D.int.injEq, D.str.injEq, D.tup.injEq, D.lst.injEq, Arg.d.injEq, List.cons.injEq, exists_and_left, exists_and_right, exists_eq_left', exists_eq_left, exists_eq_right, exists_eq_right', exists_eq, exists_eq', and_true, true_and, and_assoc, and_self, exists_const, reduceCtorEq]
    exact hq
theorem ok_is_widths (T : Txt K mg) : FnOk P w K mg base (L2.CX P w) 4 T.f_is_widths T.fd_is_widths ["thing"] (spOf K 1 (fs_is_widths K)) := by
  refine def_ok T.F_is_widths sc_is_widths (wb := w_is_widths K) pure_is_widths ?_
  intro cdv A outer s H E hr tk
  exact ⟨_, (pss_one (ps_ret (pe_and (pe_callS (ok_is_tuple_of T) (hr.mono (by decide)) rfl T.g_is_tuple_of T.k_is_tuple_of T.b_is_tuple_of (fun σ => passAt tk σ) (pa_cons pe_int (pa_cons (pe_glob (v := .int 12) rfl T.c_MOST_VESSELS ⟨_, rfl⟩) (pa_cons (pv 0) pa_nil)))) (pe_one (pe_callB (cr_all (by rfl)) (by rfl) T.z_all (by decide +kernel) (pa_cons (pe_lc (own := [("width", 1)]) (g := (gName 1)) (tt := tYes) (te := (tCallS (spOf K 1 (fs_is_width K)) (L2.WE W0) (tCons (tVar 1) tNil))) rfl sc_is_widths.nd (pi_seq (pv 0)) (blkOk_by (N := ["thing", "width"]) (sc := defScope s_is_widths) (by decide +kernel)) (fun _ _ _ _ _ => (pg_name (i := 1) sc_is_widths.nd rfl (by first | exact Or.inl rfl | exact Or.inr rfl))) (fun _ _ _ _ _ => pts_nil) (fun _ _ _ _ _ => (pe_callS (ok_is_width T) (hr.mono (by decide)) rfl T.g_is_width T.k_is_width T.b_is_width (fun σ => passAt L2.takes0 σ) (pa_cons (pv 1) pa_nil)))) pa_nil)))))),
    (ds_ret (de_and (de_call (n := 3) (fs := fs_is_tuple_of K) (dac_cons de_int (dac_cons de_int (dac_cons (de_var 0) dac_nil)))) (de_cb o_all (da_cons (de_lc (vs := [1]) (wI := (wSeq (wVar 0))) (wg := (wName 1)) (wt := wYes) (we := (wCall 1 (fs_is_width K) (wcCons (wVar 1) wcNil))) (di_seq (de_var 0)) (dg_name 1) dt_yes (de_call (n := 1) (fs := fs_is_width K) (dac_cons (de_var 1) dac_nil)) (by decide)) da_nil))))⟩
abbrev s_is_pipe : Stmt := topS 24
theorem sc_is_pipe : FnScope ["vessels", "thing", "one", "other", "thresholds"] ["vessels", "thing"] (defScope s_is_pipe) := ⟨rfl, rfl, rfl, by decide +kernel, rfl, by decide +kernel, by decide +kernel⟩
def w_is_pipe (K : PySem.W.Frag) : SW := (wSq (wIfS (wNot (wB (wCall 3 (fs_is_tuple_of K) (wcCons (wC (.int 3)) (wcCons (wC (.int 3)) (wcCons (wVar 1) wcNil)))))) (wRet (wC (.bl false))) wNext)
  (wSq (wAsg (wVar 1) (wTupT 3 (wConsT (wName 2) (wConsT (wName 3) (wConsT (wName 4) wNilT)))))
  (wRet (wAndV (wCall 3 (fs_is_between K) (wcCons (wC (.int 0)) (wcCons (wOp gSubI (wVar 0) (wC (.int 1))) (wcCons (wVar 3) wcNil)))) (wAndV (wCall 3 (fs_is_between K) (wcCons (wC (.int 0)) (wcCons (wOp gSubI (wVar 3) (wC (.int 1))) (wcCons (wVar 2) wcNil)))) (wCall 1 (fs_is_list K) (wcCons (wVar 4) wcNil)))))))
def isPi (v : Int) : D → Bool | .tup [a, .int b, l] => isBetw 0 (v - 1) (.int b) && isBetw 0 (b - 1) a && isLi l | _ => false
def fs_is_pipe (K : PySem.W.Frag) : FS := fun cs q _ => ∃ (v : Int) (d : D), cs = [.dat (.int v), .dat d] ∧ OkD K d ∧ q (.bl (isPi v d)) cs
theorem tup_three {d : D} (h : isTupOf 3 3 d = true) : ∃ x y z, d = .tup [x, y, z] := by
  cases d <;> simp [isTupOf] at h
  rename_i ds
  match ds, h with
  | [], h => simp at h
  | [x], h => simp at h
  | [x, y], h => simp at h
  | [x, y, z], _ => exact ⟨x, y, z, rfl⟩
  | x :: y :: z :: u :: r, h => simp at h; omega
theorem pi_not_three {v : Int} {d : D} (h : isTupOf 3 3 d = false) : isPi v d = false := by
  cases d with
  | tup ds =>
    match ds with
    | [] => rfl
    | [x] => cases x <;> rfl
    | [x, y] => cases x <;> cases y <;> rfl
    | [x, y, z] => simp [isTupOf] at h
    | x :: y :: z :: u :: r => cases x <;> cases y <;> rfl
  | _ => rfl
theorem pure_is_pipe : PureD 2 3 (fs_is_pipe K) (w_is_pipe K) := by
  rintro cs q e - ⟨v, d, rfl, hd, hq⟩
  cases h : isTupOf 3 3 d with
  | false =>
    rw [pi_not_three h] at hq
    simp only [w_is_pipe, fs_is_tuple_of, h, hd, wListRg1, wListRg2, wRngDown, wZipK, gInL, gNotInT, wCatOwn, gIsB, gNotB, D.adr.injEq, Cont.pool.injEq, ixN31, ne_eq, List.map_cons, List.map_nil, wPoolOpen, wPoolClose, wPop0, wPopTo, wListOwn, wRemove, wRaise0, wRaise1, wAugOwn, wEnumL, wTru, wSlA, gCatA, gLtT, gLeT, wFrz, wChain3, wAttr, wMkF, wEnumT, wRevT, wDict0, wDict1, numD3, Nat.reduceAdd, atI0, atI1, atI2, atI3, atI4, ixN51, ixN52, ixN53, List.length_map, wNever, scal, V.int.injEq, V.str.injEq, V.bl.injEq, wSq, wNext, wBreak, wCont, wDrop, wRet, wRetN, wIfS, wAsg, wPar, wLstOwn, wAppend, wSetOwn, wIxOwn, wPeek, wRetOwn, wRetFr, wFor, wB, wNot, wAnd, wOr, wAndV, wOrV, wNotV, wIf, wChain, wNil, wCons, wCB, wTup, wLst, wNoPart, wPart, wSlT, wSlL, wSeq, wRng1, wRng2, wZip, wName, wNilT, wConsT, wTupT, wYes, wNeg, wVar, wC, wOp, wcNil, wcCons, wcOwn, wCall, wCallOwn, slots, cellsOf, OwnArgs, putBack, g2I, g2IC, gLen, gAbs, gGcd, gInt1, gTupleOf, gListOf, gIx, gCatT, gCat, gEq, gNe, gIsN, gNotN, scD, seqD_t, seqD_l, seqD_f, isNonD, List.nodup_cons, List.mem_cons, List.not_mem_nil, or_false, not_false_eq_true, Nat.reduceEqDiff, L3.Keeps, ends, wipeD, List.replicate, List.cons_append, List.nil_append, List.append_nil, List.getElem?_cons_zero, List.getElem?_cons_succ, List.set_cons_zero, List.set_cons_succ, List.getD_cons_zero, List.getD_cons_succ, List.length_cons, List.length_nil, List.nodup_nil, Option.some.injEq, Cell.dat.injEq, Cell.own.injEq, Cont.lst.injEq, D.bl.injEq, D.int.injEq, D.str.injEq, D.tup.injEq, D.lst.injEq, Arg.d.injEq, List.cons.injEq, exists_and_left, exists_and_right, exists_eq_left', exists_eq_left, exists_eq_right, exists_eq_right', exists_eq, exists_eq', and_true, true_and, and_assoc, and_self, exists_const, reduceCtorEq]
    simpa using hq
  | true =>
    obtain ⟨a, b, l, rfl⟩ := tup_three h
    have ha := okTup hd (d := a) (by simp)
    have hb := okTup hd (d := b) (by simp)
    have hl := okTup hd (d := l) (by simp)
    simp only [w_is_pipe, fs_is_tuple_of, fs_is_between, fs_is_list, h, hd, ha, hb, hl, wListRg1, wListRg2, wRngDown, wZipK, gInL, gNotInT, wCatOwn, gIsB, gNotB, D.adr.injEq, Cont.pool.injEq, ixN31, ne_eq, List.map_cons, List.map_nil, wPoolOpen, wPoolClose, wPop0, wPopTo, wListOwn, wRemove, wRaise0, wRaise1, wAugOwn, wEnumL, wTru, wSlA, gCatA, gLtT, gLeT, wFrz, wChain3, wAttr, wMkF, wEnumT, wRevT, wDict0, wDict1, numD3, Nat.reduceAdd, atI0, atI1, atI2, atI3, atI4, ixN51, ixN52, ixN53, List.length_map, wNever, scal, V.int.injEq, V.str.injEq, V.bl.injEq, wSq, wNext, wBreak, wCont, wDrop, wRet, wRetN, wIfS, wAsg, wPar, wLstOwn, wAppend, wSetOwn, wIxOwn, wPeek, wRetOwn, wRetFr, wFor, wB, wNot, wAnd, wOr, wAndV, wOrV, wNotV, wIf, wChain, wNil, wCons, wCB, wTup, wLst, wNoPart, wPart, wSlT, wSlL, wSeq, wRng1, wRng2, wZip, wName, wNilT, wConsT, wTupT, wYes, wNeg, wVar, wC, wOp, wcNil, wcCons, wcOwn, wCall, wCallOwn, slots, cellsOf, OwnArgs, putBack, g2I, g2IC, gLen, gAbs, gGcd, gInt1, gTupleOf, gListOf, gIx, gCatT, gCat, gEq, gNe, gIsN, gNotN, scD, seqD_t, seqD_l, seqD_f, isNonD, List.nodup_cons, List.mem_cons, List.not_mem_nil, or_false, not_false_eq_true, Nat.reduceEqDiff, L3.Keeps, ends, wipeD, List.replicate, List.cons_append, List.nil_append, List.append_nil, List.getElem?_cons_zero, List.getElem?_cons_succ, List.set_cons_zero, List.set_cons_succ, List.getD_cons_zero, List.getD_cons_succ, List.length_cons, List.length_nil, List.nodup_nil, Option.some.injEq, Cell.dat.injEq, Cell.own.injEq, Cont.lst.injEq, D.bl.injEq, D.int.injEq, D.str.injEq, D.tup.injEq, D.lst.injEq, Arg.d.injEq, List.cons.injEq, exists_and_left, exists_and_right, exists_eq_left', exists_eq_left, exists_eq_right, exists_eq_right', exists_eq, exists_eq', and_true, true_and, and_assoc, and_self, exists_const, reduceCtorEq]
    simp only [Bool.not_true, Bool.false_eq_true, false_implies, true_implies, true_and]
    cases e1 : isBetw 0 (v - 1) b with
    | false =>
      have e2 : isPi v (.tup [a, b, l]) = false := by
        cases b <;> simp [isPi]
        intro z
        rw [e1] at z; cases z
      rw [e2] at hq
      simpa using hq
    | true =>
      obtain ⟨i, rfl, _, _⟩ := betw_int e1
      have e2 : isPi v (.tup [a, .int i, l]) = (isBetw 0 (i - 1) a && isLi l) := by simp only [isPi, e1, Bool.true_and]
      rw [e2] at hq
      simp only [D.int.injEq, exists_eq_left', true_implies, reduceCtorEq, false_implies, and_true]
      cases e3 : isBetw 0 (i - 1) a with
      | false => rw [e3] at hq; simpa using hq
      | true => rw [e3] at hq; simpa using hq
theorem ok_is_pipe (T : Txt K mg) : FnOk P w K mg base (L2.CX P w) 5 T.f_is_pipe T.fd_is_pipe ["vessels", "thing"] (spOf K 2 (fs_is_pipe K)) := by
  refine def_ok T.F_is_pipe sc_is_pipe (wb := w_is_pipe K) pure_is_pipe ?_
  intro cdv A outer s H E hr tk
  exact ⟨_, (pss_cons (ps_if (pt_not (pt_val (pe_callS (ok_is_tuple_of T) (hr.mono (by decide)) rfl T.g_is_tuple_of T.k_is_tuple_of T.b_is_tuple_of (fun σ => passAt tk σ) (pa_cons pe_int (pa_cons pe_int (pa_cons (pv 1) pa_nil))))))
        (pss_one (ps_ret pe_bl))
        pss_nil)
      (pss_cons (ps_asg (pv 1) (pg_tup (by rfl) (pgs_cons (pg_name (i := 2) sc_is_pipe.nd rfl (by first | exact Or.inl rfl | exact Or.inr rfl)) (pgs_cons (pg_name (i := 3) sc_is_pipe.nd rfl (by first | exact Or.inl rfl | exact Or.inr rfl)) (pgs_cons (pg_name (i := 4) sc_is_pipe.nd rfl (by first | exact Or.inl rfl | exact Or.inr rfl)) pgs_nil)))))
      (pss_one (ps_ret (pe_and (pe_callS (ok_is_between T) (hr.mono (by decide)) rfl T.g_is_between T.k_is_between T.b_is_between (fun σ => passAt tk σ) (pa_cons pe_int (pa_cons (pe_op op_sub (pv 0) pe_int) (pa_cons (pv 3) pa_nil)))) (pe_and (pe_callS (ok_is_between T) (hr.mono (by decide)) rfl T.g_is_between T.k_is_between T.b_is_between (fun σ => passAt tk σ) (pa_cons pe_int (pa_cons (pe_op op_sub (pv 3) pe_int) (pa_cons (pv 2) pa_nil)))) (pe_one (pe_callS (ok_is_list T) (hr.mono (by decide)) rfl T.g_is_list T.k_is_list T.b_is_list (fun σ => passAt tk σ) (pa_cons (pv 4) pa_nil))))))))),
    (ds_seq (ds_if (dt_not (dt_B (de_call (n := 3) (fs := fs_is_tuple_of K) (dac_cons de_int (dac_cons de_int (dac_cons (de_var 1) dac_nil)))))) (ds_ret de_bl) ds_nil)
      (ds_seq (ds_asg (de_var 1) (dg_tup (n := 3) (dgs_cons (dg_name 2) (dgs_cons (dg_name 3) (dgs_cons (dg_name 4) dgs_nil)))))
      (ds_ret (de_and (de_call (n := 3) (fs := fs_is_between K) (dac_cons de_int (dac_cons (de_op o_sub (de_var 0) de_int) (dac_cons (de_var 3) dac_nil)))) (de_and (de_call (n := 3) (fs := fs_is_between K) (dac_cons de_int (dac_cons (de_op o_sub (de_var 3) de_int) (dac_cons (de_var 2) dac_nil)))) (de_call (n := 1) (fs := fs_is_list K) (dac_cons (de_var 4) dac_nil)))))))⟩
abbrev s_Web__init__ : Stmt := inClass (topS 25) 0
theorem sc_Web__init__ : FnScope ["self", "widths", "pipes", "number", "pipe"] ["self", "widths", "pipes"] (defScope s_Web__init__) := ⟨rfl, rfl, rfl, by decide +kernel, rfl, by decide +kernel, by decide +kernel⟩
def l1_Web__init__ (K : PySem.W.Frag) (Z : CT) : SW := wFor (wEnumT (wCons (wVar 2) wNil)) (wTupT 2 (wConsT (wName 3) (wConsT (wName 4) wNilT))) (wIfS (wNot (wB (wCall 2 (fs_is_pipe K) (wcCons (wCB gLen (wCons (wVar 1) wNil)) (wcCons (wVar 4) wcNil))))) (wRaise1 Z.C_BadWeb "part" (wVar 3)) wNext)
def w_Web__init__ (K : PySem.W.Frag) (Z : CT) : SW := (wSq (wIfS (wNot (wB (wCall 1 (fs_is_widths K) (wcCons (wVar 1) wcNil)))) (wRaise1 Z.C_BadWeb "part" (wC (.str "widths"))) wNext)
  (wSq (wIfS (wNot (wB (wCall 3 (fs_is_tuple_of K) (wcCons (wC (.int 0)) (wcCons (wC (.int 36)) (wcCons (wVar 2) wcNil)))))) (wRaise1 Z.C_BadWeb "part" (wC (.str "pipes"))) wNext)
  (wSq (l1_Web__init__ K Z)
  (wSq (wFld Z.C_Web 0 "widths" (wVar 1))
  (wFld Z.C_Web 0 "pipes" (wVar 2))))))
def firstBad (n : Int) : Nat → List D → Option Nat
  | _, [] => none
  | k, d :: r => if isPi n d = true then firstBad n (k + 1) r else some k
def badWeb (ws ps : D) : Option D :=
  if isWs ws = false then some (.str "widths") else if isTupOf 0 36 ps = false then some (.str "pipes") else
  match ws, ps with
  | .tup us, .tup ds => (firstBad us.length 0 ds).map fun i => .int (i : Nat)
  | _, _ => none
def fs_Web__init__ (K : PySem.W.Frag) (Z : CT) : FS := fun cs q e => ∃ x dx ws ps, cs = [.own x (.obj Z.C_Web dx []), .dat ws, .dat ps] ∧ OkD K ws ∧ OkD K ps ∧
  (∀ part, badWeb ws ps = some part → e ⟨Z.C_BadWeb, [("part", part)]⟩ cs) ∧ (badWeb ws ps = none → q .non [.own x (.obj Z.C_Web dx [("widths", ws), ("pipes", ps)]), .dat ws, .dat ps])
theorem l1_Web__init___ok {Z : CT} {c0 c3 c4 : Cell} {us ds : List D} {E : EndsD} (hd : OkD K (.tup ds)) (hb : ∀ i, firstBad us.length 0 ds = some i → ∀ c3 c4, E.ex ⟨Z.C_BadWeb, [("part", .int (i : Nat))]⟩ [c0, .dat (.tup us), .dat (.tup ds), c3, c4]) (hn : firstBad us.length 0 ds = none → ∀ c3 c4, E.nx [c0, .dat (.tup us), .dat (.tup ds), c3, c4]) : l1_Web__init__ K Z E [c0, .dat (.tup us), .dat (.tup ds), c3, c4] := by
  unfold l1_Web__init__ wFor
  refine ⟨_, rfl, ds, rfl, fun i τ => (∃ c3 c4, τ = [c0, .dat (.tup us), .dat (.tup ds), c3, c4]) ∧ firstBad us.length 0 ds = firstBad us.length i (ds.drop i), ⟨⟨_, _, rfl⟩, rfl⟩, ?_, ?_⟩
  · rintro i d τ2 hi ⟨⟨c3, c4, rfl⟩, hf⟩
    have hlt : i < ds.length := by
      have := (List.getElem?_eq_some_iff.mp hi).1
      rwa [List.length_mapIdx] at this
    rw [List.getElem?_mapIdx, List.getElem?_eq_getElem hlt] at hi
    cases hi
    have ok : OkD K ds[i] := okTup hd (List.getElem_mem hlt)
    rw [List.drop_eq_getElem_cons hlt, firstBad] at hf
    cases h : isPi us.length ds[i] with
    | false =>
      rw [h] at hf
      simp only [fs_is_pipe, wRaise1, seqD_t, ok, h, wListRg1, wListRg2, wRngDown, wZipK, gInL, gNotInT, wCatOwn, gIsB, gNotB, D.adr.injEq, Cont.pool.injEq, ixN31, ne_eq, List.map_cons, List.map_nil, wPoolOpen, wPoolClose, wPop0, wPopTo, wListOwn, wRemove, wRaise0, wRaise1, wAugOwn, wEnumL, wTru, wSlA, gCatA, gLtT, gLeT, wFrz, wChain3, wAttr, wMkF, wEnumT, wRevT, wDict0, wDict1, numD3, Nat.reduceAdd, atI0, atI1, atI2, atI3, atI4, ixN51, ixN52, ixN53, List.length_map, wNever, scal, V.int.injEq, V.str.injEq, V.bl.injEq, wSq, wNext, wBreak, wCont, wDrop, wRet, wRetN, wIfS, wAsg, wPar, wLstOwn, wAppend, wSetOwn, wIxOwn, wPeek, wRetOwn, wRetFr, wFor, wB, wNot, wAnd, wOr, wAndV, wOrV, wNotV, wIf, wChain, wNil, wCons, wCB, wTup, wLst, wNoPart, wPart, wSlT, wSlL, wSeq, wRng1, wRng2, wZip, wName, wNilT, wConsT, wTupT, wYes, wNeg, wVar, wC, wOp, wcNil, wcCons, wcOwn, wCall, wCallOwn, slots, cellsOf, OwnArgs, putBack, g2I, g2IC, gLen, gAbs, gGcd, gInt1, gTupleOf, gListOf, gIx, gCatT, gCat, gEq, gNe, gIsN, gNotN, scD, seqD_t, seqD_l, seqD_f, isNonD, List.nodup_cons, List.mem_cons, List.not_mem_nil, or_false, not_false_eq_true, Nat.reduceEqDiff, L3.Keeps, ends, wipeD, List.replicate, List.cons_append, List.nil_append, List.append_nil, List.getElem?_cons_zero, List.getElem?_cons_succ, List.set_cons_zero, List.set_cons_succ, List.getD_cons_zero, List.getD_cons_succ, List.length_cons, List.length_nil, List.nodup_nil, Option.some.injEq, Cell.dat.injEq, Cell.own.injEq, Cont.lst.injEq, D.bl.injEq, D.int.injEq, D.str.injEq, D.tup.injEq, D.lst.injEq, Arg.d.injEq, List.cons.injEq, exists_and_left, exists_and_right, exists_eq_left', exists_eq_left, exists_eq_right, exists_eq_right', exists_eq, exists_eq', and_true, true_and, and_assoc, and_self, exists_const, reduceCtorEq]
      simp
      exact hb i hf _ _
    | true =>
      rw [h] at hf
      simp only [fs_is_pipe, wRaise1, seqD_t, ok, h, wListRg1, wListRg2, wRngDown, wZipK, gInL, gNotInT, wCatOwn, gIsB, gNotB, D.adr.injEq, Cont.pool.injEq, ixN31, ne_eq, List.map_cons, List.map_nil, wPoolOpen, wPoolClose, wPop0, wPopTo, wListOwn, wRemove, wRaise0, wRaise1, wAugOwn, wEnumL, wTru, wSlA, gCatA, gLtT, gLeT, wFrz, wChain3, wAttr, wMkF, wEnumT, wRevT, wDict0, wDict1, numD3, Nat.reduceAdd, atI0, atI1, atI2, atI3, atI4, ixN51, ixN52, ixN53, List.length_map, wNever, scal, V.int.injEq, V.str.injEq, V.bl.injEq, wSq, wNext, wBreak, wCont, wDrop, wRet, wRetN, wIfS, wAsg, wPar, wLstOwn, wAppend, wSetOwn, wIxOwn, wPeek, wRetOwn, wRetFr, wFor, wB, wNot, wAnd, wOr, wAndV, wOrV, wNotV, wIf, wChain, wNil, wCons, wCB, wTup, wLst, wNoPart, wPart, wSlT, wSlL, wSeq, wRng1, wRng2, wZip, wName, wNilT, wConsT, wTupT, wYes, wNeg, wVar, wC, wOp, wcNil, wcCons, wcOwn, wCall, wCallOwn, slots, cellsOf, OwnArgs, putBack, g2I, g2IC, gLen, gAbs, gGcd, gInt1, gTupleOf, gListOf, gIx, gCatT, gCat, gEq, gNe, gIsN, gNotN, scD, seqD_t, seqD_l, seqD_f, isNonD, List.nodup_cons, List.mem_cons, List.not_mem_nil, or_false, not_false_eq_true, Nat.reduceEqDiff, L3.Keeps, ends, wipeD, List.replicate, List.cons_append, List.nil_append, List.append_nil, List.getElem?_cons_zero, List.getElem?_cons_succ, List.set_cons_zero, List.set_cons_succ, List.getD_cons_zero, List.getD_cons_succ, List.length_cons, List.length_nil, List.nodup_nil, Option.some.injEq, Cell.dat.injEq, Cell.own.injEq, Cont.lst.injEq, D.bl.injEq, D.int.injEq, D.str.injEq, D.tup.injEq, D.lst.injEq, Arg.d.injEq, List.cons.injEq, exists_and_left, exists_and_right, exists_eq_left', exists_eq_left, exists_eq_right, exists_eq_right', exists_eq, exists_eq', and_true, true_and, and_assoc, and_self, exists_const, reduceCtorEq]
      simp
      exact hf
  · rintro τ2 ⟨⟨c3, c4, rfl⟩, hf⟩
    rw [List.length_mapIdx, List.drop_length] at hf
    exact hn hf _ _
theorem pure_Web__init__ {Z : CT} : PureD 3 2 (fs_Web__init__ K Z) (w_Web__init__ K Z) := by
  rintro cs q e - ⟨x, dx, ws, ps, rfl, h1, h2, hb, hn⟩
  cases g1 : isWs ws with
  | false =>
    simp only [badWeb, g1, if_true] at hb
    simp only [w_Web__init__, fs_is_widths, wRaise1, h1, g1, wListRg1, wListRg2, wRngDown, wZipK, gInL, gNotInT, wCatOwn, gIsB, gNotB, D.adr.injEq, Cont.pool.injEq, ixN31, ne_eq, List.map_cons, List.map_nil, wPoolOpen, wPoolClose, wPop0, wPopTo, wListOwn, wRemove, wRaise0, wRaise1, wAugOwn, wEnumL, wTru, wSlA, gCatA, gLtT, gLeT, wFrz, wChain3, wAttr, wMkF, wEnumT, wRevT, wDict0, wDict1, numD3, Nat.reduceAdd, atI0, atI1, atI2, atI3, atI4, ixN51, ixN52, ixN53, List.length_map, wNever, scal, V.int.injEq, V.str.injEq, V.bl.injEq, wSq, wNext, wBreak, wCont, wDrop, wRet, wRetN, wIfS, wAsg, wPar, wLstOwn, wAppend, wSetOwn, wIxOwn, wPeek, wRetOwn, wRetFr, wFor, wB, wNot, wAnd, wOr, wAndV, wOrV, wNotV, wIf, wChain, wNil, wCons, wCB, wTup, wLst, wNoPart, wPart, wSlT, wSlL, wSeq, wRng1, wRng2, wZip, wName, wNilT, wConsT, wTupT, wYes, wNeg, wVar, wC, wOp, wcNil, wcCons, wcOwn, wCall, wCallOwn, slots, cellsOf, OwnArgs, putBack, g2I, g2IC, gLen, gAbs, gGcd, gInt1, gTupleOf, gListOf, gIx, gCatT, gCat, gEq, gNe, gIsN, gNotN, scD, seqD_t, seqD_l, seqD_f, isNonD, List.nodup_cons, List.mem_cons, List.not_mem_nil, or_false, not_false_eq_true, Nat.reduceEqDiff, L3.Keeps, ends, wipeD, List.replicate, List.cons_append, List.nil_append, List.append_nil, List.getElem?_cons_zero, List.getElem?_cons_succ, List.set_cons_zero, List.set_cons_succ, List.getD_cons_zero, List.getD_cons_succ, List.length_cons, List.length_nil, List.nodup_nil, Option.some.injEq, Cell.dat.injEq, Cell.own.injEq, Cont.lst.injEq, D.bl.injEq, D.int.injEq, D.str.injEq, D.tup.injEq, D.lst.injEq, Arg.d.injEq, List.cons.injEq, exists_and_left, exists_and_right, exists_eq_left', exists_eq_left, exists_eq_right, exists_eq_right', exists_eq, exists_eq', and_true, true_and, and_assoc, and_self, exists_const, reduceCtorEq]
    simp
    exact hb _ rfl
  | true =>
    cases g2 : isTupOf 0 36 ps with
    | false =>
      simp only [badWeb, g1, g2, if_true, Bool.true_eq_false, if_false] at hb
      simp only [w_Web__init__, fs_is_widths, fs_is_tuple_of, wRaise1, h1, h2, g1, g2, wListRg1, wListRg2, wRngDown, wZipK, gInL, gNotInT, wCatOwn, gIsB, gNotB, D.adr.injEq, Cont.pool.injEq, ixN31, ne_eq, List.map_cons, List.map_nil, wPoolOpen, wPoolClose, wPop0, wPopTo, wListOwn, wRemove, wRaise0, wRaise1, wAugOwn, wEnumL, wTru, wSlA, gCatA, gLtT, gLeT, wFrz, wChain3, wAttr, wMkF, wEnumT, wRevT, wDict0, wDict1, numD3, Nat.reduceAdd, atI0, atI1, atI2, atI3, atI4, ixN51, ixN52, ixN53, List.length_map, wNever, scal, V.int.injEq, V.str.injEq, V.bl.injEq, wSq, wNext, wBreak, wCont, wDrop, wRet, wRetN, wIfS, wAsg, wPar, wLstOwn, wAppend, wSetOwn, wIxOwn, wPeek, wRetOwn, wRetFr, wFor, wB, wNot, wAnd, wOr, wAndV, wOrV, wNotV, wIf, wChain, wNil, wCons, wCB, wTup, wLst, wNoPart, wPart, wSlT, wSlL, wSeq, wRng1, wRng2, wZip, wName, wNilT, wConsT, wTupT, wYes, wNeg, wVar, wC, wOp, wcNil, wcCons, wcOwn, wCall, wCallOwn, slots, cellsOf, OwnArgs, putBack, g2I, g2IC, gLen, gAbs, gGcd, gInt1, gTupleOf, gListOf, gIx, gCatT, gCat, gEq, gNe, gIsN, gNotN, scD, seqD_t, seqD_l, seqD_f, isNonD, List.nodup_cons, List.mem_cons, List.not_mem_nil, or_false, not_false_eq_true, Nat.reduceEqDiff, L3.Keeps, ends, wipeD, List.replicate, List.cons_append, List.nil_append, List.append_nil, List.getElem?_cons_zero, List.getElem?_cons_succ, List.set_cons_zero, List.set_cons_succ, List.getD_cons_zero, List.getD_cons_succ, List.length_cons, List.length_nil, List.nodup_nil, Option.some.injEq, Cell.dat.injEq, Cell.own.injEq, Cont.lst.injEq, D.bl.injEq, D.int.injEq, D.str.injEq, D.tup.injEq, D.lst.injEq, Arg.d.injEq, List.cons.injEq, exists_and_left, exists_and_right, exists_eq_left', exists_eq_left, exists_eq_right, exists_eq_right', exists_eq, exists_eq', and_true, true_and, and_assoc, and_self, exists_const, reduceCtorEq]
      simp
      exact hb _ rfl
    | true =>
      obtain ⟨us, rfl⟩ : ∃ us, ws = .tup us := by cases ws <;> first | exact ⟨_, rfl⟩ | cases g1
      obtain ⟨ds, rfl⟩ : ∃ us, ps = .tup us := by cases ps <;> first | exact ⟨_, rfl⟩ | cases g2
      simp only [badWeb, g1, g2, Bool.true_eq_false, if_false, Option.map_eq_some_iff, Option.map_eq_none_iff] at hb hn
      simp only [w_Web__init__, fs_is_widths, fs_is_tuple_of, wRaise1, h1, h2, g1, g2, wListRg1, wListRg2, wRngDown, wZipK, gInL, gNotInT, wCatOwn, gIsB, gNotB, D.adr.injEq, Cont.pool.injEq, ixN31, ne_eq, List.map_cons, List.map_nil, wPoolOpen, wPoolClose, wPop0, wPopTo, wListOwn, wRemove, wRaise0, wRaise1, wAugOwn, wEnumL, wTru, wSlA, gCatA, gLtT, gLeT, wFrz, wChain3, wAttr, wMkF, wEnumT, wRevT, wDict0, wDict1, numD3, Nat.reduceAdd, atI0, atI1, atI2, atI3, atI4, ixN51, ixN52, ixN53, List.length_map, wNever, scal, V.int.injEq, V.str.injEq, V.bl.injEq, wSq, wNext, wBreak, wCont, wDrop, wRet, wRetN, wIfS, wAsg, wPar, wLstOwn, wAppend, wSetOwn, wIxOwn, wPeek, wRetOwn, wRetFr, wFor, wB, wNot, wAnd, wOr, wAndV, wOrV, wNotV, wIf, wChain, wNil, wCons, wCB, wTup, wLst, wNoPart, wPart, wSlT, wSlL, wSeq, wRng1, wRng2, wZip, wName, wNilT, wConsT, wTupT, wYes, wNeg, wVar, wC, wOp, wcNil, wcCons, wcOwn, wCall, wCallOwn, slots, cellsOf, OwnArgs, putBack, g2I, g2IC, gLen, gAbs, gGcd, gInt1, gTupleOf, gListOf, gIx, gCatT, gCat, gEq, gNe, gIsN, gNotN, scD, seqD_t, seqD_l, seqD_f, isNonD, List.nodup_cons, List.mem_cons, List.not_mem_nil, or_false, not_false_eq_true, Nat.reduceEqDiff, L3.Keeps, ends, wipeD, List.replicate, List.cons_append, List.nil_append, List.append_nil, List.getElem?_cons_zero, List.getElem?_cons_succ, List.set_cons_zero, List.set_cons_succ, List.getD_cons_zero, List.getD_cons_succ, List.length_cons, List.length_nil, List.nodup_nil, Option.some.injEq, Cell.dat.injEq, Cell.own.injEq, Cont.lst.injEq, D.bl.injEq, D.int.injEq, D.str.injEq, D.tup.injEq, D.lst.injEq, Arg.d.injEq, List.cons.injEq, exists_and_left, exists_and_right, exists_eq_left', exists_eq_left, exists_eq_right, exists_eq_right', exists_eq, exists_eq', and_true, true_and, and_assoc, and_self, exists_const, reduceCtorEq]
      simp
      refine l1_Web__init___ok h2 (fun i hi c3 c4 => ?_) fun h c3 c4 => ?_
      · simp only [wListRg1, wListRg2, wRngDown, wZipK, gInL, gNotInT, wCatOwn, gIsB, gNotB, D.adr.injEq, Cont.pool.injEq, ixN31, ne_eq, List.map_cons, List.map_nil, wPoolOpen, wPoolClose, wPop0, wPopTo, wListOwn, wRemove, wRaise0, wRaise1, wAugOwn, wEnumL, wTru, wSlA, gCatA, gLtT, gLeT, wFrz, wChain3, wAttr, wMkF, wEnumT, wRevT, wDict0, wDict1, numD3, Nat.reduceAdd, atI0, atI1, atI2, atI3, atI4, ixN51, ixN52, ixN53, List.length_map, wNever, scal, V.int.injEq, V.str.injEq, V.bl.injEq, wSq, wNext, wBreak, wCont, wDrop, wRet, wRetN, wIfS, wAsg, wPar, wLstOwn, wAppend, wSetOwn, wIxOwn, wPeek, wRetOwn, wRetFr, wFor, wB, wNot, wAnd, wOr, wAndV, wOrV, wNotV, wIf, wChain, wNil, wCons, wCB, wTup, wLst, wNoPart, wPart, wSlT, wSlL, wSeq, wRng1, wRng2, wZip, wName, wNilT, wConsT, wTupT, wYes, wNeg, wVar, wC, wOp, wcNil, wcCons, wcOwn, wCall, wCallOwn, slots, cellsOf, OwnArgs, putBack, g2I, g2IC, gLen, gAbs, gGcd, gInt1, gTupleOf, gListOf, gIx, gCatT, gCat, gEq, gNe, gIsN, gNotN, scD, seqD_t, seqD_l, seqD_f, isNonD, List.nodup_cons, List.mem_cons, List.not_mem_nil, or_false, not_false_eq_true, Nat.reduceEqDiff, L3.Keeps, ends, wipeD, List.replicate, List.cons_append, List.nil_append, List.append_nil, List.getElem?_cons_zero, List.getElem?_cons_succ, List.set_cons_zero, List.set_cons_succ, List.getD_cons_zero, List.getD_cons_succ, List.length_cons, List.length_nil, List.nodup_nil, Option.some.injEq, Cell.dat.injEq, Cell.own.injEq, Cont.lst.injEq, D.bl.injEq, D.int.injEq, D.str.injEq, D.tup.injEq, D.lst.injEq, Arg.d.injEq, List.cons.injEq, exists_and_left, exists_and_right, exists_eq_left', exists_eq_left, exists_eq_right, exists_eq_right', exists_eq, exists_eq', and_true, true_and, and_assoc, and_self, exists_const, reduceCtorEq]
        exact hb _ ⟨i, hi, rfl⟩
      · have e : putD (Str.ofString "pipes") (D.tup ds) [(Str.ofString "widths", D.tup us)] = [(Str.ofString "widths", D.tup us), (Str.ofString "pipes", D.tup ds)] := by
          unfold putD
          rw [if_neg (by decide +kernel)]
          rfl
        simp only [wFld, wListRg1, wListRg2, wRngDown, wZipK, gInL, gNotInT, wCatOwn, gIsB, gNotB, D.adr.injEq, Cont.pool.injEq, ixN31, ne_eq, List.map_cons, List.map_nil, wPoolOpen, wPoolClose, wPop0, wPopTo, wListOwn, wRemove, wRaise0, wRaise1, wAugOwn, wEnumL, wTru, wSlA, gCatA, gLtT, gLeT, wFrz, wChain3, wAttr, wMkF, wEnumT, wRevT, wDict0, wDict1, numD3, Nat.reduceAdd, atI0, atI1, atI2, atI3, atI4, ixN51, ixN52, ixN53, List.length_map, wNever, scal, V.int.injEq, V.str.injEq, V.bl.injEq, wSq, wNext, wBreak, wCont, wDrop, wRet, wRetN, wIfS, wAsg, wPar, wLstOwn, wAppend, wSetOwn, wIxOwn, wPeek, wRetOwn, wRetFr, wFor, wB, wNot, wAnd, wOr, wAndV, wOrV, wNotV, wIf, wChain, wNil, wCons, wCB, wTup, wLst, wNoPart, wPart, wSlT, wSlL, wSeq, wRng1, wRng2, wZip, wName, wNilT, wConsT, wTupT, wYes, wNeg, wVar, wC, wOp, wcNil, wcCons, wcOwn, wCall, wCallOwn, slots, cellsOf, OwnArgs, putBack, g2I, g2IC, gLen, gAbs, gGcd, gInt1, gTupleOf, gListOf, gIx, gCatT, gCat, gEq, gNe, gIsN, gNotN, scD, seqD_t, seqD_l, seqD_f, isNonD, List.nodup_cons, List.mem_cons, List.not_mem_nil, or_false, not_false_eq_true, Nat.reduceEqDiff, L3.Keeps, ends, wipeD, List.replicate, List.cons_append, List.nil_append, List.append_nil, List.getElem?_cons_zero, List.getElem?_cons_succ, List.set_cons_zero, List.set_cons_succ, List.getD_cons_zero, List.getD_cons_succ, List.length_cons, List.length_nil, List.nodup_nil, Option.some.injEq, Cell.dat.injEq, Cell.own.injEq, Cont.lst.injEq, D.bl.injEq, D.int.injEq, D.str.injEq, D.tup.injEq, D.lst.injEq, Arg.d.injEq, List.cons.injEq, exists_and_left, exists_and_right, exists_eq_left', exists_eq_left, exists_eq_right, exists_eq_right', exists_eq, exists_eq', and_true, true_and, and_assoc, and_self, exists_const, reduceCtorEq]
        simp
        exact ⟨dx, [], ⟨rfl, rfl⟩, (show (0 : Nat) < 1000 by decide), dx, [(Str.ofString "widths", D.tup us)], ⟨rfl, rfl⟩, (show (1 : Nat) < 1000 by decide), by rw [e]; exact hn h⟩
theorem ok_Web__init__ (T : Txt K mg) : FnOk P w K mg base (L2.CX P w) 6 T.f_Web__init__ T.fd_Web__init__ ["self", "widths", "pipes"] (spOf K 3 (fs_Web__init__ K T.Z)) := by
  refine def_ok T.F_Web__init__ sc_Web__init__ (wb := w_Web__init__ K T.Z) pure_Web__init__ ?_
  intro cdv A outer s H E hr tk
  exact ⟨_, (pss_cons (ps_if (pt_not (pt_val (pe_callS (ok_is_widths T) (hr.mono (by decide)) rfl T.g_is_widths T.k_is_widths T.b_is_widths (fun σ => passAt tk σ) (pa_cons (pv 1) pa_nil))))
        (pss_one (ps_raise rfl tk (pmk_oex T.ox_BadWeb T.xi_BadWeb T.xt_BadWeb (okx_BadWeb T) (hr.mono (by decide : 2 ≤ _)) T.bx_BadWeb .nil passL rfl T.gx_BadWeb (pa_cons pe_str pa_nil))))
        pss_nil)
      (pss_cons (ps_if (pt_not (pt_val (pe_callS (ok_is_tuple_of T) (hr.mono (by decide)) rfl T.g_is_tuple_of T.k_is_tuple_of T.b_is_tuple_of (fun σ => passAt tk σ) (pa_cons pe_int (pa_cons (pe_glob (v := .int 36) rfl T.c_MOST_PIPES ⟨_, rfl⟩) (pa_cons (pv 2) pa_nil))))))
        (pss_one (ps_raise rfl tk (pmk_oex T.ox_BadWeb T.xi_BadWeb T.xt_BadWeb (okx_BadWeb T) (hr.mono (by decide : 2 ≤ _)) T.bx_BadWeb .nil passL rfl T.gx_BadWeb (pa_cons pe_str pa_nil))))
        pss_nil)
      (pss_cons (ps_for (passes_of rfl) rfl (pi_enumT (by rfl) T.z_enumerate (pa_cons (pv 2) pa_nil)) (pg_tup (by rfl) (pgs_cons (pg_name (i := 3) sc_Web__init__.nd rfl (by first | exact Or.inl rfl | exact Or.inr rfl)) (pgs_cons (pg_name (i := 4) sc_Web__init__.nd rfl (by first | exact Or.inl rfl | exact Or.inr rfl)) pgs_nil)))
        (pss_one (ps_if (pt_not (pt_val (pe_callS (ok_is_pipe T) (hr.mono (by decide)) rfl T.g_is_pipe T.k_is_pipe T.b_is_pipe (fun σ => passAt tk σ) (pa_cons (pe_callB call_len_seq (by rfl) T.z_len (by decide +kernel) (pa_cons (pv 1) pa_nil)) (pa_cons (pv 4) pa_nil)))))
        (pss_one (ps_raise rfl tk (pmk_oex T.ox_BadWeb T.xi_BadWeb T.xt_BadWeb (okx_BadWeb T) (hr.mono (by decide : 2 ≤ _)) T.bx_BadWeb .nil passL rfl T.gx_BadWeb (pa_cons (pv 3) pa_nil))))
        pss_nil)))
      (pss_cons (ps_fld (pv 0) (pv 1) (by rfl))
      (pss_one (ps_fld (pv 0) (pv 2) (by rfl))))))),
    (ds_seq (ds_if (dt_not (dt_B (de_call (n := 1) (fs := fs_is_widths K) (dac_cons (de_var 1) dac_nil)))) (ds_raise1 (C := T.Z.C_BadWeb) (f := "part") de_str) ds_nil)
      (ds_seq (ds_if (dt_not (dt_B (de_call (n := 3) (fs := fs_is_tuple_of K) (dac_cons de_int (dac_cons de_int (dac_cons (de_var 2) dac_nil)))))) (ds_raise1 (C := T.Z.C_BadWeb) (f := "part") de_str) ds_nil)
      (ds_seq (ds_for (wI := (wEnumT (wCons (wVar 2) wNil))) (wg := (wTupT 2 (wConsT (wName 3) (wConsT (wName 4) wNilT)))) (wb := (wIfS (wNot (wB (wCall 2 (fs_is_pipe K) (wcCons (wCB gLen (wCons (wVar 1) wNil)) (wcCons (wVar 4) wcNil))))) (wRaise1 T.Z.C_BadWeb "part" (wVar 3)) wNext)) (di_enumT (da_cons (de_var 2) da_nil)) (dg_tup (n := 2) (dgs_cons (dg_name 3) (dgs_cons (dg_name 4) dgs_nil))) (ds_if (dt_not (dt_B (de_call (n := 2) (fs := fs_is_pipe K) (dac_cons (de_cb o_len (da_cons (de_var 1) da_nil)) (dac_cons (de_var 4) dac_nil))))) (ds_raise1 (C := T.Z.C_BadWeb) (f := "part") (de_var 3)) ds_nil))
      (ds_seq (ds_fld (i := 0) T.it_Web.cl T.na_Web_widths (de_var 1))
      (ds_fld (i := 0) T.it_Web.cl T.na_Web_pipes (de_var 2))))))⟩
abbrev s_Web__eq__ : Stmt := inClass (topS 25) 1
theorem sc_Web__eq__ : FnScope ["self", "other"] ["self", "other"] (defScope s_Web__eq__) := ⟨rfl, rfl, rfl, by decide +kernel, rfl, by decide +kernel, by decide +kernel⟩
def w_Web__eq__ (K : PySem.W.Frag) (Z : CT) : SW := (wRet (wAndV (wIsiC Z.C_Web K (wVar 1)) (wAndV (wOp gEqD (wAttr Z.C_Web "widths" (wVar 0)) (wAttr Z.C_Web "widths" (wVar 1))) (wOp gEqD (wAttr Z.C_Web "pipes" (wVar 0)) (wAttr Z.C_Web "pipes" (wVar 1))))))
/-- whole numbers, and tuples of such, n deep at most -/
def PlnD : Nat → D → Prop
  | 0, _ => False
  | _ + 1, .int _ => True
  | n + 1, .tup ds => ds.length ≤ 1000 ∧ ∀ d ∈ ds, PlnD n d
  | _ + 1, _ => False
theorem pln_sh : ∀ {n : Nat} {d : D}, PlnD n d → ShD n d
  | 0, _, h => h.elim
  | _ + 1, .int _, _ => trivial
  | n + 1, .tup ds, h => fun d hd => pln_sh (h.2 d hd)
  | _ + 1, .non, h => h.elim
  | _ + 1, .bl _, h => h.elim
  | _ + 1, .str _, h => h.elim
  | _ + 1, .lst _, h => h.elim
  | _ + 1, .fl _, h => h.elim
  | _ + 1, .ty _, h => h.elim
  | _ + 1, .oth _, h => h.elim
  | _ + 1, .ins _ _, h => h.elim
  | _ + 1, .adr _, h => h.elim
theorem pln_cases {n : Nat} {d : D} (h : PlnD (n + 1) d) : (∃ i, d = .int i) ∨ ∃ ds, d = .tup ds ∧ ds.length ≤ 1000 ∧ ∀ x ∈ ds, PlnD n x := by
  cases d with
  | int i => exact .inl ⟨i, rfl⟩
  | tup ds => exact .inr ⟨ds, rfl, h⟩
  | _ => exact h.elim
theorem eqB_int (i j : Int) : eqB (.int i) (.int j) = (i == j) := rfl
theorem py_tup {n : Nat} {ds : List D} (h : ∀ d ∈ ds, PlnD n d) : pyD (.tup ds) = .tuple (ds.map pyD) := by
  obtain ⟨ps, e, c, d, e3⟩ := shDs_py (fun _ => shD_py) (ds := ds) (fun x hx => pln_sh (h x hx))
  unfold pyD
  show ((toPys ds).map PyData.tuple).getD .none = _
  rw [e, e3]
  rfl
theorem eqvAll_len : ∀ {xs ys : List PyData}, xs.length ≠ ys.length → PyData.eqvAll xs ys = false
  | [], [], h => absurd rfl h
  | [], _ :: _, _ => by simp [PyData.eqvAll]
  | _ :: _, [], _ => by simp [PyData.eqvAll]
  | x :: xs, y :: ys, h => by
    simp only [PyData.eqvAll, Bool.and_eq_false_iff]
    exact .inr (eqvAll_len fun z => h (by simp [z]))
theorem eqvAll_true : ∀ {xs ys : List D}, xs.length = ys.length → (∀ (j : Nat) x y, xs[j]? = some x → ys[j]? = some y → eqB x y = true) → PyData.eqvAll (xs.map pyD) (ys.map pyD) = true
  | [], [], _, _ => by simp [PyData.eqvAll]
  | [], _ :: _, h, _ => by simp at h
  | _ :: _, [], h, _ => by simp at h
  | x :: xs, y :: ys, h, k => by
    simp only [List.map_cons, PyData.eqvAll, Bool.and_eq_true]
    exact ⟨k 0 x y rfl rfl, eqvAll_true (by simpa using h) fun j a b h1 h2 => k (j + 1) a b (by simpa using h1) (by simpa using h2)⟩
theorem eqvAll_false : ∀ {xs ys : List D} {j : Nat} {x y : D}, xs[j]? = some x → ys[j]? = some y → eqB x y = false → PyData.eqvAll (xs.map pyD) (ys.map pyD) = false
  | [], _, _, _, _, h, _, _ => by simp at h
  | _ :: _, [], _, _, _, _, h, _ => by simp at h
  | a :: xs, b :: ys, 0, x, y, h1, h2, h => by
    simp at h1 h2
    subst h1
    subst h2
    simp only [List.map_cons, PyData.eqvAll, Bool.and_eq_false_iff]
    exact .inl h
  | a :: xs, b :: ys, j + 1, x, y, h1, h2, h => by
    simp only [List.map_cons, PyData.eqvAll, Bool.and_eq_false_iff]
    exact .inr (eqvAll_false (by simpa using h1) (by simpa using h2) h)
/-- what isinstance says of the two classes -/
structure KitF (K : PySem.W.Frag) (C D : Addr) : Prop where
  kb : ∀ T ∈ kindNames, PySem.W.kitOne K (.type T) (.ref C) = some false
  ks : PySem.W.kitOne K (.ref C) (.ref C) = some true
  ko : PySem.W.kitOne K (.ref D) (.ref C) = some false
  it : InsTy K C
  ito : InsTy K D
theorem blt_ty {d : D} (h : BltD d) : noTy d ∧ ∃ T, T ∈ kindNames ∧ tyD d = .type T := by
  cases d with
  | non => exact ⟨trivial, "NoneType", by simp [kindNames], rfl⟩
  | bl b => exact ⟨trivial, "bool", by simp [kindNames], rfl⟩
  | int b => exact ⟨trivial, "int", by simp [kindNames], rfl⟩
  | str b => exact ⟨trivial, "str", by simp [kindNames], rfl⟩
  | tup b => exact ⟨trivial, "tuple", by simp [kindNames], rfl⟩
  | lst b => exact ⟨trivial, "list", by simp [kindNames], rfl⟩
  | fl b => exact ⟨trivial, "list", by simp [kindNames], rfl⟩
  | ty _ => exact h.elim
  | oth t =>
    unfold BltD at h
    split at h <;> first | (cases ‹D.oth _ = _›; done) | exact h.elim | skip
    rename_i e
    cases e
    exact ⟨trivial, "dict", by simp [kindNames], rfl⟩
  | ins _ _ => exact h.elim
  | adr _ => exact h.elim
def fs_Web__eq__ (K : PySem.W.Frag) (Z : CT) : FS := fun cs q _ => ∃ us ds y, cs = [.dat (.ins Z.C_Web [("widths", us), ("pipes", ds)]), .dat y] ∧ KitF K Z.C_Web Z.C_Book ∧ PlnD 5 us ∧ PlnD 5 ds ∧ ((BltD y ∧ q (.bl false) cs) ∨ (∃ gs, y = .ins Z.C_Book gs ∧ q (.bl false) cs) ∨
  ∃ us' ds', y = .ins Z.C_Web [("widths", us'), ("pipes", ds')] ∧ PlnD 5 us' ∧ PlnD 5 ds' ∧ q (.bl (eqB us us' && eqB ds ds')) cs)
theorem pure_Web__eq__ {Z : CT} : PureD 2 0 (fs_Web__eq__ K Z) (w_Web__eq__ K Z) := by
  rintro cs q e - ⟨us, ds, y, rfl, hk, h1, h2, (⟨hy, hq⟩ | ⟨gs, rfl, hq⟩ | ⟨us', ds', rfl, h3, h4, hq⟩)⟩
  · obtain ⟨nt, T, hT, et⟩ := blt_ty hy
    simp only [w_Web__eq__, wIsiC, wListRg1, wListRg2, wRngDown, wZipK, gInL, gNotInT, wCatOwn, gIsB, gNotB, D.adr.injEq, Cont.pool.injEq, ixN31, ne_eq, List.map_cons, List.map_nil, wPoolOpen, wPoolClose, wPop0, wPopTo, wListOwn, wRemove, wRaise0, wRaise1, wAugOwn, wEnumL, wTru, wSlA, gCatA, gLtT, gLeT, wFrz, wChain3, wAttr, wMkF, wEnumT, wRevT, wDict0, wDict1, numD3, Nat.reduceAdd, atI0, atI1, atI2, atI3, atI4, ixN51, ixN52, ixN53, List.length_map, wNever, scal, V.int.injEq, V.str.injEq, V.bl.injEq, wSq, wNext, wBreak, wCont, wDrop, wRet, wRetN, wIfS, wAsg, wPar, wLstOwn, wAppend, wSetOwn, wIxOwn, wPeek, wRetOwn, wRetFr, wFor, wB, wNot, wAnd, wOr, wAndV, wOrV, wNotV, wIf, wChain, wNil, wCons, wCB, wTup, wLst, wNoPart, wPart, wSlT, wSlL, wSeq, wRng1, wRng2, wZip, wName, wNilT, wConsT, wTupT, wYes, wNeg, wVar, wC, wOp, wcNil, wcCons, wcOwn, wCall, wCallOwn, slots, cellsOf, OwnArgs, putBack, g2I, g2IC, gLen, gAbs, gGcd, gInt1, gTupleOf, gListOf, gIx, gCatT, gCat, gEq, gNe, gIsN, gNotN, scD, seqD_t, seqD_l, seqD_f, isNonD, List.nodup_cons, List.mem_cons, List.not_mem_nil, or_false, not_false_eq_true, Nat.reduceEqDiff, L3.Keeps, ends, wipeD, List.replicate, List.cons_append, List.nil_append, List.append_nil, List.getElem?_cons_zero, List.getElem?_cons_succ, List.set_cons_zero, List.set_cons_succ, List.getD_cons_zero, List.getD_cons_succ, List.length_cons, List.length_nil, List.nodup_nil, Option.some.injEq, Cell.dat.injEq, Cell.own.injEq, Cont.lst.injEq, D.bl.injEq, D.int.injEq, D.str.injEq, D.tup.injEq, D.lst.injEq, Arg.d.injEq, List.cons.injEq, exists_and_left, exists_and_right, exists_eq_left', exists_eq_left, exists_eq_right, exists_eq_right', exists_eq, exists_eq', and_true, true_and, and_assoc, and_self, exists_const, reduceCtorEq]
    refine ⟨false, .inl ⟨nt, by rw [et]; exact hk.kb T hT⟩, ?_⟩
    exact ⟨false, rfl, fun z => (nomatch z), fun _ => hq⟩
  · simp only [w_Web__eq__, wIsiC, wListRg1, wListRg2, wRngDown, wZipK, gInL, gNotInT, wCatOwn, gIsB, gNotB, D.adr.injEq, Cont.pool.injEq, ixN31, ne_eq, List.map_cons, List.map_nil, wPoolOpen, wPoolClose, wPop0, wPopTo, wListOwn, wRemove, wRaise0, wRaise1, wAugOwn, wEnumL, wTru, wSlA, gCatA, gLtT, gLeT, wFrz, wChain3, wAttr, wMkF, wEnumT, wRevT, wDict0, wDict1, numD3, Nat.reduceAdd, atI0, atI1, atI2, atI3, atI4, ixN51, ixN52, ixN53, List.length_map, wNever, scal, V.int.injEq, V.str.injEq, V.bl.injEq, wSq, wNext, wBreak, wCont, wDrop, wRet, wRetN, wIfS, wAsg, wPar, wLstOwn, wAppend, wSetOwn, wIxOwn, wPeek, wRetOwn, wRetFr, wFor, wB, wNot, wAnd, wOr, wAndV, wOrV, wNotV, wIf, wChain, wNil, wCons, wCB, wTup, wLst, wNoPart, wPart, wSlT, wSlL, wSeq, wRng1, wRng2, wZip, wName, wNilT, wConsT, wTupT, wYes, wNeg, wVar, wC, wOp, wcNil, wcCons, wcOwn, wCall, wCallOwn, slots, cellsOf, OwnArgs, putBack, g2I, g2IC, gLen, gAbs, gGcd, gInt1, gTupleOf, gListOf, gIx, gCatT, gCat, gEq, gNe, gIsN, gNotN, scD, seqD_t, seqD_l, seqD_f, isNonD, List.nodup_cons, List.mem_cons, List.not_mem_nil, or_false, not_false_eq_true, Nat.reduceEqDiff, L3.Keeps, ends, wipeD, List.replicate, List.cons_append, List.nil_append, List.append_nil, List.getElem?_cons_zero, List.getElem?_cons_succ, List.set_cons_zero, List.set_cons_succ, List.getD_cons_zero, List.getD_cons_succ, List.length_cons, List.length_nil, List.nodup_nil, Option.some.injEq, Cell.dat.injEq, Cell.own.injEq, Cont.lst.injEq, D.bl.injEq, D.int.injEq, D.str.injEq, D.tup.injEq, D.lst.injEq, Arg.d.injEq, List.cons.injEq, exists_and_left, exists_and_right, exists_eq_left', exists_eq_left, exists_eq_right, exists_eq_right', exists_eq, exists_eq', and_true, true_and, and_assoc, and_self, exists_const, reduceCtorEq]
    refine ⟨false, .inr ⟨_, _, rfl, hk.ito, hk.ko⟩, ?_⟩
    exact ⟨false, rfl, fun z => (nomatch z), fun _ => hq⟩
  · simp only [w_Web__eq__, wIsiC, wListRg1, wListRg2, wRngDown, wZipK, gInL, gNotInT, wCatOwn, gIsB, gNotB, D.adr.injEq, Cont.pool.injEq, ixN31, ne_eq, List.map_cons, List.map_nil, wPoolOpen, wPoolClose, wPop0, wPopTo, wListOwn, wRemove, wRaise0, wRaise1, wAugOwn, wEnumL, wTru, wSlA, gCatA, gLtT, gLeT, wFrz, wChain3, wAttr, wMkF, wEnumT, wRevT, wDict0, wDict1, numD3, Nat.reduceAdd, atI0, atI1, atI2, atI3, atI4, ixN51, ixN52, ixN53, List.length_map, wNever, scal, V.int.injEq, V.str.injEq, V.bl.injEq, wSq, wNext, wBreak, wCont, wDrop, wRet, wRetN, wIfS, wAsg, wPar, wLstOwn, wAppend, wSetOwn, wIxOwn, wPeek, wRetOwn, wRetFr, wFor, wB, wNot, wAnd, wOr, wAndV, wOrV, wNotV, wIf, wChain, wNil, wCons, wCB, wTup, wLst, wNoPart, wPart, wSlT, wSlL, wSeq, wRng1, wRng2, wZip, wName, wNilT, wConsT, wTupT, wYes, wNeg, wVar, wC, wOp, wcNil, wcCons, wcOwn, wCall, wCallOwn, slots, cellsOf, OwnArgs, putBack, g2I, g2IC, gLen, gAbs, gGcd, gInt1, gTupleOf, gListOf, gIx, gCatT, gCat, gEq, gNe, gIsN, gNotN, scD, seqD_t, seqD_l, seqD_f, isNonD, List.nodup_cons, List.mem_cons, List.not_mem_nil, or_false, not_false_eq_true, Nat.reduceEqDiff, L3.Keeps, ends, wipeD, List.replicate, List.cons_append, List.nil_append, List.append_nil, List.getElem?_cons_zero, List.getElem?_cons_succ, List.set_cons_zero, List.set_cons_succ, List.getD_cons_zero, List.getD_cons_succ, List.length_cons, List.length_nil, List.nodup_nil, Option.some.injEq, Cell.dat.injEq, Cell.own.injEq, Cont.lst.injEq, D.bl.injEq, D.int.injEq, D.str.injEq, D.tup.injEq, D.lst.injEq, Arg.d.injEq, List.cons.injEq, exists_and_left, exists_and_right, exists_eq_left', exists_eq_left, exists_eq_right, exists_eq_right', exists_eq, exists_eq', and_true, true_and, and_assoc, and_self, exists_const, reduceCtorEq]
    refine ⟨true, .inr ⟨_, _, rfl, hk.it, hk.ks⟩, ?_⟩
    refine ⟨true, rfl, fun _ => ⟨_, rfl, us, rfl, _, rfl, us', rfl, gEqD_of (n := 5) (m := 5) (pln_sh h1) (pln_sh h3) (by decide) (by decide) ⟨_, rfl, fun z => ⟨_, rfl, ds, rfl, _, rfl, ds', rfl, gEqD_of (n := 5) (m := 5) (pln_sh h2) (pln_sh h4) (by decide) (by decide) ?_⟩, fun z => ?_⟩⟩, fun z => (nomatch z)⟩
    · rw [z, Bool.true_and] at hq
      exact hq
    · rw [z, Bool.false_and] at hq
      exact hq
theorem ok_Web__eq__ (T : Txt K mg) : FnOk P w K mg base (L2.CX P w) 1 T.f_Web__eq__ T.fd_Web__eq__ ["self", "other"] (spOf K 2 (fs_Web__eq__ K T.Z)) := by
  refine def_ok T.F_Web__eq__ sc_Web__eq__ (wb := w_Web__eq__ K T.Z) pure_Web__eq__ ?_
  intro cdv A outer s H E hr tk
  exact ⟨_, (pss_one (ps_ret (pe_and (pe_callB call_isi (by rfl) T.z_isinstance (by decide +kernel) (pa_cons (pv 1) (pa_cons (pe_glob (v := .ref _) rfl T.gc_Web rfl) pa_nil))) (pe_and (pe_cmpR (op_eqD hr.units) (pe_fld (pv 0) rfl) (pe_fld (pv 1) rfl) (nomark _)) (pe_one (pe_cmpR (op_eqD hr.units) (pe_fld (pv 0) rfl) (pe_fld (pv 1) rfl) (nomark _))))))),
    (ds_ret (de_and (de_isiC (de_var 1)) (de_and (de_op o_eqD (de_fld T.it_Web.cl T.na_Web_widths (de_var 0)) (de_fld T.it_Web.cl T.na_Web_widths (de_var 1))) (de_op o_eqD (de_fld T.it_Web.cl T.na_Web_pipes (de_var 0)) (de_fld T.it_Web.cl T.na_Web_pipes (de_var 1))))))⟩
abbrev s_is_sort : Stmt := topS 30
theorem sc_is_sort : FnScope ["thing"] ["thing"] (defScope s_is_sort) := ⟨rfl, rfl, rfl, by decide +kernel, rfl, by decide +kernel, by decide +kernel⟩
def w_is_sort (K : PySem.W.Frag) : SW := (wRet (wAndV (wCall 3 (fs_is_tuple_of K) (wcCons (wC (.int 2)) (wcCons (wC (.int 2)) (wcCons (wVar 0) wcNil)))) (wAndV (wCall 1 (fs_is_width K) (wcCons (wOp gIx (wVar 0) (wC (.int 0))) wcNil)) (wCall 3 (fs_is_between K) (wcCons (wC (.int 1)) (wcCons (wC (.int 6)) (wcCons (wOp gIx (wVar 0) (wC (.int 1))) wcNil)))))))
def isSo : D → Bool | .tup [x, y] => isBetw 0 12 x && isBetw 1 6 y | _ => false
theorem so_not_two {d : D} (h : isTupOf 2 2 d = false) : isSo d = false := by
  cases d with
  | tup ds =>
    match ds with
    | [] => rfl
    | [x] => rfl
    | [x, y] => simp [isTupOf] at h
    | x :: y :: z :: r => rfl
  | _ => rfl
def fs_is_sort (K : PySem.W.Frag) : FS := fun cs q _ => ∃ d, cs = [.dat d] ∧ OkD K d ∧ q (.bl (isSo d)) cs
theorem pure_is_sort : PureD 1 0 (fs_is_sort K) (w_is_sort K) := by
  rintro cs q e - ⟨d, rfl, hd, hq⟩
  cases h : isTupOf 2 2 d with
  | false =>
    rw [so_not_two h] at hq
    simp only [w_is_sort, fs_is_tuple_of, h, hd, wListRg1, wListRg2, wRngDown, wZipK, gInL, gNotInT, wCatOwn, gIsB, gNotB, D.adr.injEq, Cont.pool.injEq, ixN31, ne_eq, List.map_cons, List.map_nil, wPoolOpen, wPoolClose, wPop0, wPopTo, wListOwn, wRemove, wRaise0, wRaise1, wAugOwn, wEnumL, wTru, wSlA, gCatA, gLtT, gLeT, wFrz, wChain3, wAttr, wMkF, wEnumT, wRevT, wDict0, wDict1, numD3, Nat.reduceAdd, atI0, atI1, atI2, atI3, atI4, ixN51, ixN52, ixN53, List.length_map, wNever, scal, V.int.injEq, V.str.injEq, V.bl.injEq, wSq, wNext, wBreak, wCont, wDrop, wRet, wRetN, wIfS, wAsg, wPar, wLstOwn, wAppend, wSetOwn, wIxOwn, wPeek, wRetOwn, wRetFr, wFor, wB, wNot, wAnd, wOr, wAndV, wOrV, wNotV, wIf, wChain, wNil, wCons, wCB, wTup, wLst, wNoPart, wPart, wSlT, wSlL, wSeq, wRng1, wRng2, wZip, wName, wNilT, wConsT, wTupT, wYes, wNeg, wVar, wC, wOp, wcNil, wcCons, wcOwn, wCall, wCallOwn, slots, cellsOf, OwnArgs, putBack, g2I, g2IC, gLen, gAbs, gGcd, gInt1, gTupleOf, gListOf, gIx, gCatT, gCat, gEq, gNe, gIsN, gNotN, scD, seqD_t, seqD_l, seqD_f, isNonD, List.nodup_cons, List.mem_cons, List.not_mem_nil, or_false, not_false_eq_true, Nat.reduceEqDiff, L3.Keeps, ends, wipeD, List.replicate, List.cons_append, List.nil_append, List.append_nil, List.getElem?_cons_zero, List.getElem?_cons_succ, List.set_cons_zero, List.set_cons_succ, List.getD_cons_zero, List.getD_cons_succ, List.length_cons, List.length_nil, List.nodup_nil, Option.some.injEq, Cell.dat.injEq, Cell.own.injEq, Cont.lst.injEq, D.bl.injEq, D.int.injEq, D.str.injEq, D.tup.injEq, D.lst.injEq, Arg.d.injEq, List.cons.injEq, exists_and_left, exists_and_right, exists_eq_left', exists_eq_left, exists_eq_right, exists_eq_right', exists_eq, exists_eq', and_true, true_and, and_assoc, and_self, exists_const, reduceCtorEq]
    simpa using hq
  | true =>
    obtain ⟨x, y, rfl⟩ := tup_two h
    have hx := okTup hd (d := x) (by simp)
    have hy := okTup hd (d := y) (by simp)
    simp only [w_is_sort, fs_is_tuple_of, fs_is_width, fs_is_between, seqD_t, h, hd, hx, hy, wListRg1, wListRg2, wRngDown, wZipK, gInL, gNotInT, wCatOwn, gIsB, gNotB, D.adr.injEq, Cont.pool.injEq, ixN31, ne_eq, List.map_cons, List.map_nil, wPoolOpen, wPoolClose, wPop0, wPopTo, wListOwn, wRemove, wRaise0, wRaise1, wAugOwn, wEnumL, wTru, wSlA, gCatA, gLtT, gLeT, wFrz, wChain3, wAttr, wMkF, wEnumT, wRevT, wDict0, wDict1, numD3, Nat.reduceAdd, atI0, atI1, atI2, atI3, atI4, ixN51, ixN52, ixN53, List.length_map, wNever, scal, V.int.injEq, V.str.injEq, V.bl.injEq, wSq, wNext, wBreak, wCont, wDrop, wRet, wRetN, wIfS, wAsg, wPar, wLstOwn, wAppend, wSetOwn, wIxOwn, wPeek, wRetOwn, wRetFr, wFor, wB, wNot, wAnd, wOr, wAndV, wOrV, wNotV, wIf, wChain, wNil, wCons, wCB, wTup, wLst, wNoPart, wPart, wSlT, wSlL, wSeq, wRng1, wRng2, wZip, wName, wNilT, wConsT, wTupT, wYes, wNeg, wVar, wC, wOp, wcNil, wcCons, wcOwn, wCall, wCallOwn, slots, cellsOf, OwnArgs, putBack, g2I, g2IC, gLen, gAbs, gGcd, gInt1, gTupleOf, gListOf, gIx, gCatT, gCat, gEq, gNe, gIsN, gNotN, scD, seqD_t, seqD_l, seqD_f, isNonD, List.nodup_cons, List.mem_cons, List.not_mem_nil, or_false, not_false_eq_true, Nat.reduceEqDiff, L3.Keeps, ends, wipeD, List.replicate, List.cons_append, List.nil_append, List.append_nil, List.getElem?_cons_zero, List.getElem?_cons_succ, List.set_cons_zero, List.set_cons_succ, List.getD_cons_zero, List.getD_cons_succ, List.length_cons, List.length_nil, List.nodup_nil, Option.some.injEq, Cell.dat.injEq, Cell.own.injEq, Cont.lst.injEq, D.bl.injEq, D.int.injEq, D.str.injEq, D.tup.injEq, D.lst.injEq, Arg.d.injEq, List.cons.injEq, exists_and_left, exists_and_right, exists_eq_left', exists_eq_left, exists_eq_right, exists_eq_right', exists_eq, exists_eq', and_true, true_and, and_assoc, and_self, exists_const, reduceCtorEq]
    simp only [isSo] at hq
    cases h1 : isBetw 0 12 x <;> simp [h1] at hq ⊢ <;> exact hq
theorem so_shape {d : D} (h : isSo d = true) : ∃ w c : Int, d = .tup [.int w, .int c] ∧ 0 ≤ w ∧ w ≤ 12 ∧ 1 ≤ c ∧ c ≤ 6 := by
  cases h2 : isTupOf 2 2 d with
  | false => rw [so_not_two h2] at h; cases h
  | true =>
    obtain ⟨x, y, rfl⟩ := tup_two h2
    simp only [isSo, Bool.and_eq_true] at h
    obtain ⟨w, rfl, w0, w1⟩ := betw_int h.1
    obtain ⟨c, rfl, c0, c1⟩ := betw_int h.2
    exact ⟨w, c, rfl, w0, w1, c0, c1⟩
theorem ok_is_sort (T : Txt K mg) : FnOk P w K mg base (L2.CX P w) 4 T.f_is_sort T.fd_is_sort ["thing"] (spOf K 1 (fs_is_sort K)) := by
  refine def_ok T.F_is_sort sc_is_sort (wb := w_is_sort K) pure_is_sort ?_
  intro cdv A outer s H E hr tk
  exact ⟨_, (pss_one (ps_ret (pe_and (pe_callS (ok_is_tuple_of T) (hr.mono (by decide)) rfl T.g_is_tuple_of T.k_is_tuple_of T.b_is_tuple_of (fun σ => passAt tk σ) (pa_cons pe_int (pa_cons pe_int (pa_cons (pv 0) pa_nil)))) (pe_and (pe_callS (ok_is_width T) (hr.mono (by decide)) rfl T.g_is_width T.k_is_width T.b_is_width (fun σ => passAt tk σ) (pa_cons (pe_ix ix_seq (pv 0) pe_int (fun _ _ => rfl)) pa_nil)) (pe_one (pe_callS (ok_is_between T) (hr.mono (by decide)) rfl T.g_is_between T.k_is_between T.b_is_between (fun σ => passAt tk σ) (pa_cons pe_int (pa_cons (pe_glob (v := .int 6) rfl T.c_MOST_CAP ⟨_, rfl⟩) (pa_cons (pe_ix ix_seq (pv 0) pe_int (fun _ _ => rfl)) pa_nil))))))))),
    (ds_ret (de_and (de_call (n := 3) (fs := fs_is_tuple_of K) (dac_cons de_int (dac_cons de_int (dac_cons (de_var 0) dac_nil)))) (de_and (de_call (n := 1) (fs := fs_is_width K) (dac_cons (de_op o_ix (de_var 0) de_int) dac_nil)) (de_call (n := 3) (fs := fs_is_between K) (dac_cons de_int (dac_cons de_int (dac_cons (de_op o_ix (de_var 0) de_int) dac_nil)))))))⟩
abbrev s_is_sort_tuple : Stmt := topS 31
theorem sc_is_sort_tuple : FnScope ["thing", "sort", "width", "_"] ["thing"] (defScope s_is_sort_tuple) := ⟨rfl, rfl, rfl, by decide +kernel, rfl, by decide +kernel, by decide +kernel⟩
def c1_is_sort_tuple (K : PySem.W.Frag) : EW := wLc (wSeq (wVar 0)) (wName 1) wYes (wCall 1 (fs_is_sort K) (wcCons (wVar 1) wcNil)) [1]
def c2_is_sort_tuple (K : PySem.W.Frag) : EW := wLc (wSeq (wVar 0)) (wTupT 2 (wConsT (wName 2) (wConsT (wName 3) wNilT))) (wB (wOp gEq (wVar 2) (wC (.int 0)))) (wC (.int 1)) [2, 3]
def w_is_sort_tuple (K : PySem.W.Frag) : SW := (wSq (wIfS (wOr (wNot (wB (wCall 3 (fs_is_tuple_of K) (wcCons (wC (.int 1)) (wcCons (wC (.int 4)) (wcCons (wVar 0) wcNil)))))) (wNot (wB (wCB gAll (wCons (c1_is_sort_tuple K) wNil))))) (wRet (wC (.bl false))) wNext)
  (wRet (wOp gLeI (wCB gLen (wCons (c2_is_sort_tuple K) wNil)) (wC (.int 1)))))
def isSea : D → Bool | .tup [.int w, _] => decide (w = 0) | _ => false
def isSs : D → Bool | .tup ds => isTupOf 1 4 (.tup ds) && ds.all isSo && decide (((ds.filter isSea).length : Int) ≤ 1) | _ => false
def fs_is_sort_tuple (K : PySem.W.Frag) : FS := fun cs q _ => ∃ d, cs = [.dat d] ∧ OkD K d ∧ q (.bl (isSs d)) cs
theorem c1_is_sort_tuple_ok {ds : List D} {c1 c2 c3 : Cell} {q : D → List Cell → Prop} {e : Xn → List Cell → Prop} (hd : OkD K (.tup ds)) (hn : ds.length ≤ 1000)
    (hq : q (.lst (ds.map fun d => .bl (isSo d))) [.dat (.tup ds), .any, c2, c3]) : c1_is_sort_tuple K [.dat (.tup ds), c1, c2, c3] q e := by
  unfold c1_is_sort_tuple wLc
  refine ⟨_, rfl, ds, rfl, lc_fm (fun d => .bl (isSo d)) (fun _ => true) hn (fun d hm k1 k2 h1 _ => ?_) (by rw [filter_true]; exact hq)⟩
  simp only [fs_is_sort, okTup hd hm, wListRg1, wListRg2, wRngDown, wZipK, gInL, gNotInT, wCatOwn, gIsB, gNotB, D.adr.injEq, Cont.pool.injEq, ixN31, ne_eq, List.map_cons, List.map_nil, wPoolOpen, wPoolClose, wPop0, wPopTo, wListOwn, wRemove, wRaise0, wRaise1, wAugOwn, wEnumL, wTru, wSlA, gCatA, gLtT, gLeT, wFrz, wChain3, wAttr, wMkF, wEnumT, wRevT, wDict0, wDict1, numD3, Nat.reduceAdd, atI0, atI1, atI2, atI3, atI4, ixN51, ixN52, ixN53, List.length_map, wNever, scal, V.int.injEq, V.str.injEq, V.bl.injEq, wSq, wNext, wBreak, wCont, wDrop, wRet, wRetN, wIfS, wAsg, wPar, wLstOwn, wAppend, wSetOwn, wIxOwn, wPeek, wRetOwn, wRetFr, wFor, wB, wNot, wAnd, wOr, wAndV, wOrV, wNotV, wIf, wChain, wNil, wCons, wCB, wTup, wLst, wNoPart, wPart, wSlT, wSlL, wSeq, wRng1, wRng2, wZip, wName, wNilT, wConsT, wTupT, wYes, wNeg, wVar, wC, wOp, wcNil, wcCons, wcOwn, wCall, wCallOwn, slots, cellsOf, OwnArgs, putBack, g2I, g2IC, gLen, gAbs, gGcd, gInt1, gTupleOf, gListOf, gIx, gCatT, gCat, gEq, gNe, gIsN, gNotN, scD, seqD_t, seqD_l, seqD_f, isNonD, List.nodup_cons, List.mem_cons, List.not_mem_nil, or_false, not_false_eq_true, Nat.reduceEqDiff, L3.Keeps, ends, wipeD, List.replicate, List.cons_append, List.nil_append, List.append_nil, List.getElem?_cons_zero, List.getElem?_cons_succ, List.set_cons_zero, List.set_cons_succ, List.getD_cons_zero, List.getD_cons_succ, List.length_cons, List.length_nil, List.nodup_nil, Option.some.injEq, Cell.dat.injEq, Cell.own.injEq, Cont.lst.injEq, D.bl.injEq, D.int.injEq, D.str.injEq, D.tup.injEq, D.lst.injEq, Arg.d.injEq, List.cons.injEq, exists_and_left, exists_and_right, exists_eq_left', exists_eq_left, exists_eq_right, exists_eq_right', exists_eq, exists_eq', and_true, true_and, and_assoc, and_self, exists_const, reduceCtorEq]
  simp only [true_implies]
  exact ⟨h1 rfl _ rfl, fun z => nomatch z⟩
theorem c2_is_sort_tuple_ok {ds : List D} {c1 c2 c3 : Cell} {q : D → List Cell → Prop} {e : Xn → List Cell → Prop} (hs : ∀ d ∈ ds, isSo d = true) (hn : ds.length ≤ 1000)
    (hq : q (.lst ((ds.filter isSea).map fun _ => .int 1)) [.dat (.tup ds), c1, .any, .any]) : c2_is_sort_tuple K [.dat (.tup ds), c1, c2, c3] q e := by
  unfold c2_is_sort_tuple wLc
  refine ⟨_, rfl, ds, rfl, lc_fm (fun _ => .int 1) isSea hn (fun d hm k1 k2 h1 h2 => ?_) hq⟩
  obtain ⟨w, c, rfl, _⟩ := so_shape (hs d hm)
  simp only [wListRg1, wListRg2, wRngDown, wZipK, gInL, gNotInT, wCatOwn, gIsB, gNotB, D.adr.injEq, Cont.pool.injEq, ixN31, ne_eq, List.map_cons, List.map_nil, wPoolOpen, wPoolClose, wPop0, wPopTo, wListOwn, wRemove, wRaise0, wRaise1, wAugOwn, wEnumL, wTru, wSlA, gCatA, gLtT, gLeT, wFrz, wChain3, wAttr, wMkF, wEnumT, wRevT, wDict0, wDict1, numD3, Nat.reduceAdd, atI0, atI1, atI2, atI3, atI4, ixN51, ixN52, ixN53, List.length_map, wNever, scal, V.int.injEq, V.str.injEq, V.bl.injEq, wSq, wNext, wBreak, wCont, wDrop, wRet, wRetN, wIfS, wAsg, wPar, wLstOwn, wAppend, wSetOwn, wIxOwn, wPeek, wRetOwn, wRetFr, wFor, wB, wNot, wAnd, wOr, wAndV, wOrV, wNotV, wIf, wChain, wNil, wCons, wCB, wTup, wLst, wNoPart, wPart, wSlT, wSlL, wSeq, wRng1, wRng2, wZip, wName, wNilT, wConsT, wTupT, wYes, wNeg, wVar, wC, wOp, wcNil, wcCons, wcOwn, wCall, wCallOwn, slots, cellsOf, OwnArgs, putBack, g2I, g2IC, gLen, gAbs, gGcd, gInt1, gTupleOf, gListOf, gIx, gCatT, gCat, gEq, gNe, gIsN, gNotN, scD, seqD_t, seqD_l, seqD_f, isNonD, List.nodup_cons, List.mem_cons, List.not_mem_nil, or_false, not_false_eq_true, Nat.reduceEqDiff, L3.Keeps, ends, wipeD, List.replicate, List.cons_append, List.nil_append, List.append_nil, List.getElem?_cons_zero, List.getElem?_cons_succ, List.set_cons_zero, List.set_cons_succ, List.getD_cons_zero, List.getD_cons_succ, List.length_cons, List.length_nil, List.nodup_nil, Option.some.injEq, Cell.dat.injEq, Cell.own.injEq, Cont.lst.injEq, D.bl.injEq, D.int.injEq, D.str.injEq, D.tup.injEq, D.lst.injEq, Arg.d.injEq, List.cons.injEq, exists_and_left, exists_and_right, exists_eq_left', exists_eq_left, exists_eq_right, exists_eq_right', exists_eq, exists_eq', and_true, true_and, and_assoc, and_self, exists_const, reduceCtorEq]
  exact ⟨fun z => h1 z _ rfl, fun z => h2 z _ rfl⟩
theorem pure_is_sort_tuple : PureD 1 3 (fs_is_sort_tuple K) (w_is_sort_tuple K) := by
  rintro cs q e - ⟨d, rfl, hd, hq⟩
  cases h : isTupOf 1 4 d with
  | false =>
    have e1 : isSs d = false := by cases d <;> simp_all [isSs]
    rw [e1] at hq
    simp only [w_is_sort_tuple, fs_is_tuple_of, h, hd, wListRg1, wListRg2, wRngDown, wZipK, gInL, gNotInT, wCatOwn, gIsB, gNotB, D.adr.injEq, Cont.pool.injEq, ixN31, ne_eq, List.map_cons, List.map_nil, wPoolOpen, wPoolClose, wPop0, wPopTo, wListOwn, wRemove, wRaise0, wRaise1, wAugOwn, wEnumL, wTru, wSlA, gCatA, gLtT, gLeT, wFrz, wChain3, wAttr, wMkF, wEnumT, wRevT, wDict0, wDict1, numD3, Nat.reduceAdd, atI0, atI1, atI2, atI3, atI4, ixN51, ixN52, ixN53, List.length_map, wNever, scal, V.int.injEq, V.str.injEq, V.bl.injEq, wSq, wNext, wBreak, wCont, wDrop, wRet, wRetN, wIfS, wAsg, wPar, wLstOwn, wAppend, wSetOwn, wIxOwn, wPeek, wRetOwn, wRetFr, wFor, wB, wNot, wAnd, wOr, wAndV, wOrV, wNotV, wIf, wChain, wNil, wCons, wCB, wTup, wLst, wNoPart, wPart, wSlT, wSlL, wSeq, wRng1, wRng2, wZip, wName, wNilT, wConsT, wTupT, wYes, wNeg, wVar, wC, wOp, wcNil, wcCons, wcOwn, wCall, wCallOwn, slots, cellsOf, OwnArgs, putBack, g2I, g2IC, gLen, gAbs, gGcd, gInt1, gTupleOf, gListOf, gIx, gCatT, gCat, gEq, gNe, gIsN, gNotN, scD, seqD_t, seqD_l, seqD_f, isNonD, List.nodup_cons, List.mem_cons, List.not_mem_nil, or_false, not_false_eq_true, Nat.reduceEqDiff, L3.Keeps, ends, wipeD, List.replicate, List.cons_append, List.nil_append, List.append_nil, List.getElem?_cons_zero, List.getElem?_cons_succ, List.set_cons_zero, List.set_cons_succ, List.getD_cons_zero, List.getD_cons_succ, List.length_cons, List.length_nil, List.nodup_nil, Option.some.injEq, Cell.dat.injEq, Cell.own.injEq, Cont.lst.injEq, D.bl.injEq, D.int.injEq, D.str.injEq, D.tup.injEq, D.lst.injEq, Arg.d.injEq, List.cons.injEq, exists_and_left, exists_and_right, exists_eq_left', exists_eq_left, exists_eq_right, exists_eq_right', exists_eq, exists_eq', and_true, true_and, and_assoc, and_self, exists_const, reduceCtorEq]
    simpa using hq
  | true =>
    cases d <;> simp [isTupOf] at h
    rename_i ds
    have h' : isTupOf 1 4 (.tup ds) = true := by simp [isTupOf]; omega
    have e1 : isSs (.tup ds) = (ds.all isSo && decide (((ds.filter isSea).length : Int) ≤ 1)) := by simp only [isSs, h', Bool.true_and]
    rw [e1] at hq
    simp only [w_is_sort_tuple, fs_is_tuple_of, h', hd, wListRg1, wListRg2, wRngDown, wZipK, gInL, gNotInT, wCatOwn, gIsB, gNotB, D.adr.injEq, Cont.pool.injEq, ixN31, ne_eq, List.map_cons, List.map_nil, wPoolOpen, wPoolClose, wPop0, wPopTo, wListOwn, wRemove, wRaise0, wRaise1, wAugOwn, wEnumL, wTru, wSlA, gCatA, gLtT, gLeT, wFrz, wChain3, wAttr, wMkF, wEnumT, wRevT, wDict0, wDict1, numD3, Nat.reduceAdd, atI0, atI1, atI2, atI3, atI4, ixN51, ixN52, ixN53, List.length_map, wNever, scal, V.int.injEq, V.str.injEq, V.bl.injEq, wSq, wNext, wBreak, wCont, wDrop, wRet, wRetN, wIfS, wAsg, wPar, wLstOwn, wAppend, wSetOwn, wIxOwn, wPeek, wRetOwn, wRetFr, wFor, wB, wNot, wAnd, wOr, wAndV, wOrV, wNotV, wIf, wChain, wNil, wCons, wCB, wTup, wLst, wNoPart, wPart, wSlT, wSlL, wSeq, wRng1, wRng2, wZip, wName, wNilT, wConsT, wTupT, wYes, wNeg, wVar, wC, wOp, wcNil, wcCons, wcOwn, wCall, wCallOwn, slots, cellsOf, OwnArgs, putBack, g2I, g2IC, gLen, gAbs, gGcd, gInt1, gTupleOf, gListOf, gIx, gCatT, gCat, gEq, gNe, gIsN, gNotN, scD, seqD_t, seqD_l, seqD_f, isNonD, List.nodup_cons, List.mem_cons, List.not_mem_nil, or_false, not_false_eq_true, Nat.reduceEqDiff, L3.Keeps, ends, wipeD, List.replicate, List.cons_append, List.nil_append, List.append_nil, List.getElem?_cons_zero, List.getElem?_cons_succ, List.set_cons_zero, List.set_cons_succ, List.getD_cons_zero, List.getD_cons_succ, List.length_cons, List.length_nil, List.nodup_nil, Option.some.injEq, Cell.dat.injEq, Cell.own.injEq, Cont.lst.injEq, D.bl.injEq, D.int.injEq, D.str.injEq, D.tup.injEq, D.lst.injEq, Arg.d.injEq, List.cons.injEq, exists_and_left, exists_and_right, exists_eq_left', exists_eq_left, exists_eq_right, exists_eq_right', exists_eq, exists_eq', and_true, true_and, and_assoc, and_self, exists_const, reduceCtorEq]
    simp only [Bool.not_true, Bool.false_eq_true, false_implies, true_implies, true_and]
    refine ⟨?_, trivial⟩
    refine c1_is_sort_tuple_ok hd (by omega) ?_
    refine gAll_map ?_
    cases ht : ds.all isSo with
    | false =>
      rw [ht] at hq
      simp only [wListRg1, wListRg2, wRngDown, wZipK, gInL, gNotInT, wCatOwn, gIsB, gNotB, D.adr.injEq, Cont.pool.injEq, ixN31, ne_eq, List.map_cons, List.map_nil, wPoolOpen, wPoolClose, wPop0, wPopTo, wListOwn, wRemove, wRaise0, wRaise1, wAugOwn, wEnumL, wTru, wSlA, gCatA, gLtT, gLeT, wFrz, wChain3, wAttr, wMkF, wEnumT, wRevT, wDict0, wDict1, numD3, Nat.reduceAdd, atI0, atI1, atI2, atI3, atI4, ixN51, ixN52, ixN53, List.length_map, wNever, scal, V.int.injEq, V.str.injEq, V.bl.injEq, wSq, wNext, wBreak, wCont, wDrop, wRet, wRetN, wIfS, wAsg, wPar, wLstOwn, wAppend, wSetOwn, wIxOwn, wPeek, wRetOwn, wRetFr, wFor, wB, wNot, wAnd, wOr, wAndV, wOrV, wNotV, wIf, wChain, wNil, wCons, wCB, wTup, wLst, wNoPart, wPart, wSlT, wSlL, wSeq, wRng1, wRng2, wZip, wName, wNilT, wConsT, wTupT, wYes, wNeg, wVar, wC, wOp, wcNil, wcCons, wcOwn, wCall, wCallOwn, slots, cellsOf, OwnArgs, putBack, g2I, g2IC, gLen, gAbs, gGcd, gInt1, gTupleOf, gListOf, gIx, gCatT, gCat, gEq, gNe, gIsN, gNotN, scD, seqD_t, seqD_l, seqD_f, isNonD, List.nodup_cons, List.mem_cons, List.not_mem_nil, or_false, not_false_eq_true, Nat.reduceEqDiff, L3.Keeps, ends, wipeD, List.replicate, List.cons_append, List.nil_append, List.append_nil, List.getElem?_cons_zero, List.getElem?_cons_succ, List.set_cons_zero, List.set_cons_succ, List.getD_cons_zero, List.getD_cons_succ, List.length_cons, List.length_nil, List.nodup_nil, Option.some.injEq, Cell.dat.injEq, Cell.own.injEq, Cont.lst.injEq, D.bl.injEq, D.int.injEq, D.str.injEq, D.tup.injEq, D.lst.injEq, Arg.d.injEq, List.cons.injEq, exists_and_left, exists_and_right, exists_eq_left', exists_eq_left, exists_eq_right, exists_eq_right', exists_eq, exists_eq', and_true, true_and, and_assoc, and_self, exists_const, reduceCtorEq]
      simpa using hq
    | true =>
      rw [ht] at hq
      simp only [wListRg1, wListRg2, wRngDown, wZipK, gInL, gNotInT, wCatOwn, gIsB, gNotB, D.adr.injEq, Cont.pool.injEq, ixN31, ne_eq, List.map_cons, List.map_nil, wPoolOpen, wPoolClose, wPop0, wPopTo, wListOwn, wRemove, wRaise0, wRaise1, wAugOwn, wEnumL, wTru, wSlA, gCatA, gLtT, gLeT, wFrz, wChain3, wAttr, wMkF, wEnumT, wRevT, wDict0, wDict1, numD3, Nat.reduceAdd, atI0, atI1, atI2, atI3, atI4, ixN51, ixN52, ixN53, List.length_map, wNever, scal, V.int.injEq, V.str.injEq, V.bl.injEq, wSq, wNext, wBreak, wCont, wDrop, wRet, wRetN, wIfS, wAsg, wPar, wLstOwn, wAppend, wSetOwn, wIxOwn, wPeek, wRetOwn, wRetFr, wFor, wB, wNot, wAnd, wOr, wAndV, wOrV, wNotV, wIf, wChain, wNil, wCons, wCB, wTup, wLst, wNoPart, wPart, wSlT, wSlL, wSeq, wRng1, wRng2, wZip, wName, wNilT, wConsT, wTupT, wYes, wNeg, wVar, wC, wOp, wcNil, wcCons, wcOwn, wCall, wCallOwn, slots, cellsOf, OwnArgs, putBack, g2I, g2IC, gLen, gAbs, gGcd, gInt1, gTupleOf, gListOf, gIx, gCatT, gCat, gEq, gNe, gIsN, gNotN, scD, seqD_t, seqD_l, seqD_f, isNonD, List.nodup_cons, List.mem_cons, List.not_mem_nil, or_false, not_false_eq_true, Nat.reduceEqDiff, L3.Keeps, ends, wipeD, List.replicate, List.cons_append, List.nil_append, List.append_nil, List.getElem?_cons_zero, List.getElem?_cons_succ, List.set_cons_zero, List.set_cons_succ, List.getD_cons_zero, List.getD_cons_succ, List.length_cons, List.length_nil, List.nodup_nil, Option.some.injEq, Cell.dat.injEq, Cell.own.injEq, Cont.lst.injEq, D.bl.injEq, D.int.injEq, D.str.injEq, D.tup.injEq, D.lst.injEq, Arg.d.injEq, List.cons.injEq, exists_and_left, exists_and_right, exists_eq_left', exists_eq_left, exists_eq_right, exists_eq_right', exists_eq, exists_eq', and_true, true_and, and_assoc, and_self, exists_const, reduceCtorEq]
      simp only [Bool.not_true, Bool.false_eq_true, false_implies, true_implies, true_and]
      refine c2_is_sort_tuple_ok (List.all_eq_true.mp ht) (by omega) ?_
      simp only [seqD_l, wListRg1, wListRg2, wRngDown, wZipK, gInL, gNotInT, wCatOwn, gIsB, gNotB, D.adr.injEq, Cont.pool.injEq, ixN31, ne_eq, List.map_cons, List.map_nil, wPoolOpen, wPoolClose, wPop0, wPopTo, wListOwn, wRemove, wRaise0, wRaise1, wAugOwn, wEnumL, wTru, wSlA, gCatA, gLtT, gLeT, wFrz, wChain3, wAttr, wMkF, wEnumT, wRevT, wDict0, wDict1, numD3, Nat.reduceAdd, atI0, atI1, atI2, atI3, atI4, ixN51, ixN52, ixN53, List.length_map, wNever, scal, V.int.injEq, V.str.injEq, V.bl.injEq, wSq, wNext, wBreak, wCont, wDrop, wRet, wRetN, wIfS, wAsg, wPar, wLstOwn, wAppend, wSetOwn, wIxOwn, wPeek, wRetOwn, wRetFr, wFor, wB, wNot, wAnd, wOr, wAndV, wOrV, wNotV, wIf, wChain, wNil, wCons, wCB, wTup, wLst, wNoPart, wPart, wSlT, wSlL, wSeq, wRng1, wRng2, wZip, wName, wNilT, wConsT, wTupT, wYes, wNeg, wVar, wC, wOp, wcNil, wcCons, wcOwn, wCall, wCallOwn, slots, cellsOf, OwnArgs, putBack, g2I, g2IC, gLen, gAbs, gGcd, gInt1, gTupleOf, gListOf, gIx, gCatT, gCat, gEq, gNe, gIsN, gNotN, scD, seqD_t, seqD_l, seqD_f, isNonD, List.nodup_cons, List.mem_cons, List.not_mem_nil, or_false, not_false_eq_true, Nat.reduceEqDiff, L3.Keeps, ends, wipeD, List.replicate, List.cons_append, List.nil_append, List.append_nil, List.getElem?_cons_zero, List.getElem?_cons_succ, List.set_cons_zero, List.set_cons_succ, List.getD_cons_zero, List.getD_cons_succ, List.length_cons, List.length_nil, List.nodup_nil, Option.some.injEq, Cell.dat.injEq, Cell.own.injEq, Cont.lst.injEq, D.bl.injEq, D.int.injEq, D.str.injEq, D.tup.injEq, D.lst.injEq, Arg.d.injEq, List.cons.injEq, exists_and_left, exists_and_right, exists_eq_left', exists_eq_left, exists_eq_right, exists_eq_right', exists_eq, exists_eq', and_true, true_and, and_assoc, and_self, exists_const, reduceCtorEq, List.length_map]
      exact hq
theorem ss_shape {d : D} (h : isSs d = true) : ∃ ds, d = .tup ds ∧ 1 ≤ ds.length ∧ ds.length ≤ 4 ∧ (∀ x ∈ ds, isSo x = true) ∧ (ds.filter isSea).length ≤ 1 := by
  cases d <;> simp [isSs] at h
  rename_i ds
  obtain ⟨⟨h1, h2⟩, h3⟩ := h
  simp [isTupOf] at h1
  exact ⟨ds, rfl, by omega, by omega, fun x hx => h2 x hx, by omega⟩
theorem ok_is_sort_tuple (T : Txt K mg) : FnOk P w K mg base (L2.CX P w) 5 T.f_is_sort_tuple T.fd_is_sort_tuple ["thing"] (spOf K 1 (fs_is_sort_tuple K)) := by
  refine def_ok T.F_is_sort_tuple sc_is_sort_tuple (wb := w_is_sort_tuple K) pure_is_sort_tuple ?_
  intro cdv A outer s H E hr tk
  exact ⟨_, (pss_cons (ps_if (PW.pt (pw_or (pt_not (pt_val (pe_callS (ok_is_tuple_of T) (hr.mono (by decide)) rfl T.g_is_tuple_of T.k_is_tuple_of T.b_is_tuple_of (fun σ => passAt tk σ) (pa_cons pe_int (pa_cons (pe_glob (v := .int 4) rfl T.c_MOST_SORTS ⟨_, rfl⟩) (pa_cons (pv 0) pa_nil)))))) (pw_or1 (pt_not (pt_val (pe_callB (cr_all (by rfl)) (by rfl) T.z_all (by decide +kernel) (pa_cons (pe_lc (own := [("sort", 1)]) (g := (gName 1)) (tt := tYes) (te := (tCallS (spOf K 1 (fs_is_sort K)) (L2.WE W0) (tCons (tVar 1) tNil))) rfl sc_is_sort_tuple.nd (pi_seq (pv 0)) (blkOk_by (N := ["thing", "sort", "width", "_"]) (sc := defScope s_is_sort_tuple) (by decide +kernel)) (fun _ _ _ _ _ => (pg_name (i := 1) sc_is_sort_tuple.nd rfl (by first | exact Or.inl rfl | exact Or.inr rfl))) (fun _ _ _ _ _ => pts_nil) (fun _ _ _ _ _ => (pe_callS (ok_is_sort T) (hr.mono (by decide)) rfl T.g_is_sort T.k_is_sort T.b_is_sort (fun σ => passAt L2.takes0 σ) (pa_cons (pv 1) pa_nil)))) pa_nil)))))))
        (pss_one (ps_ret pe_bl))
        pss_nil)
      (pss_one (ps_ret (pe_cmpR op_le (pe_callB call_len_seq (by rfl) T.z_len (by decide +kernel) (pa_cons (pe_lc (own := [("width", 2), ("_", 3)]) (g := (gTup K 2 (gCons (gName 2) (gCons (gName 3) gNil)))) (tt := (tTest (tOp rEq (tVar 2) (tC (.int 0))))) (te := (tC (.int 1))) rfl sc_is_sort_tuple.nd (pi_seq (pv 0)) (blkOk_by (N := ["thing", "sort", "width", "_"]) (sc := defScope s_is_sort_tuple) (by decide +kernel)) (fun _ _ _ _ _ => (pg_tup (by rfl) (pgs_cons (pg_name (i := 2) sc_is_sort_tuple.nd rfl (by first | exact Or.inl rfl | exact Or.inr rfl)) (pgs_cons (pg_name (i := 3) sc_is_sort_tuple.nd rfl (by first | exact Or.inl rfl | exact Or.inr rfl)) pgs_nil)))) (fun _ _ _ _ _ => (pts_one (pt_cmpR op_eq (pv 2) pe_int (nomark _)))) (fun _ _ _ _ _ => pe_int)) pa_nil)) pe_int (nomark _))))),
    (ds_seq (ds_if (dt_or (dt_not (dt_B (de_call (n := 3) (fs := fs_is_tuple_of K) (dac_cons de_int (dac_cons de_int (dac_cons (de_var 0) dac_nil)))))) (dt_not (dt_B (de_cb o_all (da_cons (de_lc (vs := [1]) (wI := (wSeq (wVar 0))) (wg := (wName 1)) (wt := wYes) (we := (wCall 1 (fs_is_sort K) (wcCons (wVar 1) wcNil))) (di_seq (de_var 0)) (dg_name 1) dt_yes (de_call (n := 1) (fs := fs_is_sort K) (dac_cons (de_var 1) dac_nil)) (by decide)) da_nil))))) (ds_ret de_bl) ds_nil)
      (ds_ret (de_op o_le (de_cb o_len (da_cons (de_lc (vs := [2, 3]) (wI := (wSeq (wVar 0))) (wg := (wTupT 2 (wConsT (wName 2) (wConsT (wName 3) wNilT)))) (wt := (wB (wOp gEq (wVar 2) (wC (.int 0))))) (we := (wC (.int 1))) (di_seq (de_var 0)) (dg_tup (n := 2) (dgs_cons (dg_name 2) (dgs_cons (dg_name 3) dgs_nil))) (dt_B (de_op o_eq (de_var 2) de_int)) de_int (by decide)) da_nil)) de_int)))⟩
abbrev s_is_join : Stmt := topS 32
theorem sc_is_join : FnScope ["sorts", "thing", "low", "high"] ["sorts", "thing"] (defScope s_is_join) := ⟨rfl, rfl, rfl, by decide +kernel, rfl, by decide +kernel, by decide +kernel⟩
def w_is_join (K : PySem.W.Frag) : SW := (wSq (wIfS (wNot (wB (wCall 3 (fs_is_tuple_of K) (wcCons (wC (.int 2)) (wcCons (wC (.int 2)) (wcCons (wVar 1) wcNil)))))) (wRet (wC (.bl false))) wNext)
  (wSq (wAsg (wVar 1) (wTupT 2 (wConsT (wName 2) (wConsT (wName 3) wNilT))))
  (wSq (wIfS (wOr (wNot (wB (wCall 3 (fs_is_between K) (wcCons (wC (.int 0)) (wcCons (wOp gSubI (wCB gLen (wCons (wVar 0) wNil)) (wC (.int 1))) (wcCons (wVar 3) wcNil)))))) (wNot (wB (wCall 3 (fs_is_between K) (wcCons (wC (.int 0)) (wcCons (wVar 3) (wcCons (wVar 2) wcNil))))))) (wRet (wC (.bl false))) wNext)
  (wRet (wOrV (wOp gLtI (wVar 2) (wVar 3)) (wOp gGtI (wOp gIx (wOp gIx (wVar 0) (wVar 2)) (wC (.int 0))) (wC (.int 0))))))))
/-- the width of a sort -/
def wAt (ss : List D) (a : Int) : Int := match ss[a.toNat]? with | some (.tup [.int w, _]) => w | _ => 0
def jo (ss : List D) (a b : Int) : Bool := decide (0 ≤ b) && decide (b ≤ (ss.length : Int) - 1) && (decide (0 ≤ a) && decide (a ≤ b)) && (decide (a < b) || decide (0 < wAt ss a))
def isJo (ss : List D) : D → Bool | .tup [.int a, .int b] => jo ss a b | _ => false
theorem jo_not_two {ss : List D} {d : D} (h : isTupOf 2 2 d = false) : isJo ss d = false := by
  cases d with
  | tup ds =>
    match ds with
    | [] => rfl
    | [x] => cases x <;> rfl
    | [x, y] => simp [isTupOf] at h
    | x :: y :: z :: r => cases x <;> cases y <;> rfl
  | _ => rfl
theorem wAt_get {ss : List D} {a : Int} (hs : ∀ d ∈ ss, isSo d = true) (h0 : 0 ≤ a) (h1 : a < ss.length) : ∃ c : Int, atI ss a = some (.tup [.int (wAt ss a), .int c]) ∧ 0 ≤ wAt ss a ∧ wAt ss a ≤ 12 := by
  obtain ⟨k, rfl⟩ := Int.eq_ofNat_of_zero_le h0
  have hk : k < ss.length := by omega
  have e1 : ss[k]? = some ss[k] := List.getElem?_eq_getElem hk
  obtain ⟨w, c, e2, w0, w1, _⟩ := so_shape (hs _ (List.getElem_mem hk))
  rw [e2] at e1
  have e3 : wAt ss (k : Int) = w := by
    unfold wAt
    rw [show ((k : Int)).toNat = k by omega, e1]
  rw [e3]
  exact ⟨c, atI_nat' e1, w0, w1⟩
def fs_is_join (K : PySem.W.Frag) : FS := fun cs q _ => ∃ (ss : List D) (d : D), cs = [.dat (.tup ss), .dat d] ∧ (∀ d ∈ ss, isSo d = true) ∧ OkD K d ∧ q (.bl (isJo ss d)) cs
theorem jo_r {ss : List D} {x y : D} (h : isIntD y = false) : isJo ss (.tup [x, y]) = false := by
  cases x <;> cases y <;> first | rfl | cases h
theorem jo_l {ss : List D} {x y : D} (h : isIntD x = false) : isJo ss (.tup [x, y]) = false := by
  cases x <;> first | rfl | cases h
theorem betw_nint {l h : Int} {x : D} (i : isIntD x = false) : isBetw l h x = false := by
  cases x <;> first | rfl | cases i
theorem pure_is_join : PureD 2 2 (fs_is_join K) (w_is_join K) := by
  rintro cs q e - ⟨ss, d, rfl, hs, hd, hq⟩
  cases h : isTupOf 2 2 d with
  | false =>
    rw [jo_not_two h] at hq
    simp only [w_is_join, fs_is_tuple_of, h, hd, wListRg1, wListRg2, wRngDown, wZipK, gInL, gNotInT, wCatOwn, gIsB, gNotB, D.adr.injEq, Cont.pool.injEq, ixN31, ne_eq, List.map_cons, List.map_nil, wPoolOpen, wPoolClose, wPop0, wPopTo, wListOwn, wRemove, wRaise0, wRaise1, wAugOwn, wEnumL, wTru, wSlA, gCatA, gLtT, gLeT, wFrz, wChain3, wAttr, wMkF, wEnumT, wRevT, wDict0, wDict1, numD3, Nat.reduceAdd, atI0, atI1, atI2, atI3, atI4, ixN51, ixN52, ixN53, List.length_map, wNever, scal, V.int.injEq, V.str.injEq, V.bl.injEq, wSq, wNext, wBreak, wCont, wDrop, wRet, wRetN, wIfS, wAsg, wPar, wLstOwn, wAppend, wSetOwn, wIxOwn, wPeek, wRetOwn, wRetFr, wFor, wB, wNot, wAnd, wOr, wAndV, wOrV, wNotV, wIf, wChain, wNil, wCons, wCB, wTup, wLst, wNoPart, wPart, wSlT, wSlL, wSeq, wRng1, wRng2, wZip, wName, wNilT, wConsT, wTupT, wYes, wNeg, wVar, wC, wOp, wcNil, wcCons, wcOwn, wCall, wCallOwn, slots, cellsOf, OwnArgs, putBack, g2I, g2IC, gLen, gAbs, gGcd, gInt1, gTupleOf, gListOf, gIx, gCatT, gCat, gEq, gNe, gIsN, gNotN, scD, seqD_t, seqD_l, seqD_f, isNonD, List.nodup_cons, List.mem_cons, List.not_mem_nil, or_false, not_false_eq_true, Nat.reduceEqDiff, L3.Keeps, ends, wipeD, List.replicate, List.cons_append, List.nil_append, List.append_nil, List.getElem?_cons_zero, List.getElem?_cons_succ, List.set_cons_zero, List.set_cons_succ, List.getD_cons_zero, List.getD_cons_succ, List.length_cons, List.length_nil, List.nodup_nil, Option.some.injEq, Cell.dat.injEq, Cell.own.injEq, Cont.lst.injEq, D.bl.injEq, D.int.injEq, D.str.injEq, D.tup.injEq, D.lst.injEq, Arg.d.injEq, List.cons.injEq, exists_and_left, exists_and_right, exists_eq_left', exists_eq_left, exists_eq_right, exists_eq_right', exists_eq, exists_eq', and_true, true_and, and_assoc, and_self, exists_const, reduceCtorEq]
    simpa using hq
  | true =>
    obtain ⟨x, y, rfl⟩ := tup_two h
    have hx := okTup hd (d := x) (by simp)
    have hy := okTup hd (d := y) (by simp)
    cases iy : isIntD y with
    | false =>
      rw [jo_r iy] at hq
      simp only [w_is_join, fs_is_tuple_of, fs_is_between, seqD_t, h, hd, hx, hy, betw_nint iy, wListRg1, wListRg2, wRngDown, wZipK, gInL, gNotInT, wCatOwn, gIsB, gNotB, D.adr.injEq, Cont.pool.injEq, ixN31, ne_eq, List.map_cons, List.map_nil, wPoolOpen, wPoolClose, wPop0, wPopTo, wListOwn, wRemove, wRaise0, wRaise1, wAugOwn, wEnumL, wTru, wSlA, gCatA, gLtT, gLeT, wFrz, wChain3, wAttr, wMkF, wEnumT, wRevT, wDict0, wDict1, numD3, Nat.reduceAdd, atI0, atI1, atI2, atI3, atI4, ixN51, ixN52, ixN53, List.length_map, wNever, scal, V.int.injEq, V.str.injEq, V.bl.injEq, wSq, wNext, wBreak, wCont, wDrop, wRet, wRetN, wIfS, wAsg, wPar, wLstOwn, wAppend, wSetOwn, wIxOwn, wPeek, wRetOwn, wRetFr, wFor, wB, wNot, wAnd, wOr, wAndV, wOrV, wNotV, wIf, wChain, wNil, wCons, wCB, wTup, wLst, wNoPart, wPart, wSlT, wSlL, wSeq, wRng1, wRng2, wZip, wName, wNilT, wConsT, wTupT, wYes, wNeg, wVar, wC, wOp, wcNil, wcCons, wcOwn, wCall, wCallOwn, slots, cellsOf, OwnArgs, putBack, g2I, g2IC, gLen, gAbs, gGcd, gInt1, gTupleOf, gListOf, gIx, gCatT, gCat, gEq, gNe, gIsN, gNotN, scD, seqD_t, seqD_l, seqD_f, isNonD, List.nodup_cons, List.mem_cons, List.not_mem_nil, or_false, not_false_eq_true, Nat.reduceEqDiff, L3.Keeps, ends, wipeD, List.replicate, List.cons_append, List.nil_append, List.append_nil, List.getElem?_cons_zero, List.getElem?_cons_succ, List.set_cons_zero, List.set_cons_succ, List.getD_cons_zero, List.getD_cons_succ, List.length_cons, List.length_nil, List.nodup_nil, Option.some.injEq, Cell.dat.injEq, Cell.own.injEq, Cont.lst.injEq, D.bl.injEq, D.int.injEq, D.str.injEq, D.tup.injEq, D.lst.injEq, Arg.d.injEq, List.cons.injEq, exists_and_left, exists_and_right, exists_eq_left', exists_eq_left, exists_eq_right, exists_eq_right', exists_eq, exists_eq', and_true, true_and, and_assoc, and_self, exists_const, reduceCtorEq]
      simp
      exact hq
    | true =>
      obtain ⟨b, rfl⟩ := int_of iy
      cases ix : isIntD x with
      | false =>
        rw [jo_l ix] at hq
        simp only [w_is_join, fs_is_tuple_of, fs_is_between, seqD_t, h, hd, hx, hy, betw_nint ix, wListRg1, wListRg2, wRngDown, wZipK, gInL, gNotInT, wCatOwn, gIsB, gNotB, D.adr.injEq, Cont.pool.injEq, ixN31, ne_eq, List.map_cons, List.map_nil, wPoolOpen, wPoolClose, wPop0, wPopTo, wListOwn, wRemove, wRaise0, wRaise1, wAugOwn, wEnumL, wTru, wSlA, gCatA, gLtT, gLeT, wFrz, wChain3, wAttr, wMkF, wEnumT, wRevT, wDict0, wDict1, numD3, Nat.reduceAdd, atI0, atI1, atI2, atI3, atI4, ixN51, ixN52, ixN53, List.length_map, wNever, scal, V.int.injEq, V.str.injEq, V.bl.injEq, wSq, wNext, wBreak, wCont, wDrop, wRet, wRetN, wIfS, wAsg, wPar, wLstOwn, wAppend, wSetOwn, wIxOwn, wPeek, wRetOwn, wRetFr, wFor, wB, wNot, wAnd, wOr, wAndV, wOrV, wNotV, wIf, wChain, wNil, wCons, wCB, wTup, wLst, wNoPart, wPart, wSlT, wSlL, wSeq, wRng1, wRng2, wZip, wName, wNilT, wConsT, wTupT, wYes, wNeg, wVar, wC, wOp, wcNil, wcCons, wcOwn, wCall, wCallOwn, slots, cellsOf, OwnArgs, putBack, g2I, g2IC, gLen, gAbs, gGcd, gInt1, gTupleOf, gListOf, gIx, gCatT, gCat, gEq, gNe, gIsN, gNotN, scD, seqD_t, seqD_l, seqD_f, isNonD, List.nodup_cons, List.mem_cons, List.not_mem_nil, or_false, not_false_eq_true, Nat.reduceEqDiff, L3.Keeps, ends, wipeD, List.replicate, List.cons_append, List.nil_append, List.append_nil, List.getElem?_cons_zero, List.getElem?_cons_succ, List.set_cons_zero, List.set_cons_succ, List.getD_cons_zero, List.getD_cons_succ, List.length_cons, List.length_nil, List.nodup_nil, Option.some.injEq, Cell.dat.injEq, Cell.own.injEq, Cont.lst.injEq, D.bl.injEq, D.int.injEq, D.str.injEq, D.tup.injEq, D.lst.injEq, Arg.d.injEq, List.cons.injEq, exists_and_left, exists_and_right, exists_eq_left', exists_eq_left, exists_eq_right, exists_eq_right', exists_eq, exists_eq', and_true, true_and, and_assoc, and_self, exists_const, reduceCtorEq]
        simp
        exact ⟨fun _ => hq, fun _ => hq⟩
      | true =>
        obtain ⟨a, rfl⟩ := int_of ix
        have e1 : isJo ss (.tup [.int a, .int b]) = (isBetw 0 ((ss.length : Int) - 1) (.int b) && isBetw 0 b (.int a) && (decide (a < b) || decide (0 < wAt ss a))) := rfl
        rw [e1] at hq
        cases g1 : isBetw 0 ((ss.length : Int) - 1) (.int b) with
        | false =>
          rw [g1] at hq
          simp only [w_is_join, fs_is_tuple_of, fs_is_between, seqD_t, h, hd, hx, hy, g1, wListRg1, wListRg2, wRngDown, wZipK, gInL, gNotInT, wCatOwn, gIsB, gNotB, D.adr.injEq, Cont.pool.injEq, ixN31, ne_eq, List.map_cons, List.map_nil, wPoolOpen, wPoolClose, wPop0, wPopTo, wListOwn, wRemove, wRaise0, wRaise1, wAugOwn, wEnumL, wTru, wSlA, gCatA, gLtT, gLeT, wFrz, wChain3, wAttr, wMkF, wEnumT, wRevT, wDict0, wDict1, numD3, Nat.reduceAdd, atI0, atI1, atI2, atI3, atI4, ixN51, ixN52, ixN53, List.length_map, wNever, scal, V.int.injEq, V.str.injEq, V.bl.injEq, wSq, wNext, wBreak, wCont, wDrop, wRet, wRetN, wIfS, wAsg, wPar, wLstOwn, wAppend, wSetOwn, wIxOwn, wPeek, wRetOwn, wRetFr, wFor, wB, wNot, wAnd, wOr, wAndV, wOrV, wNotV, wIf, wChain, wNil, wCons, wCB, wTup, wLst, wNoPart, wPart, wSlT, wSlL, wSeq, wRng1, wRng2, wZip, wName, wNilT, wConsT, wTupT, wYes, wNeg, wVar, wC, wOp, wcNil, wcCons, wcOwn, wCall, wCallOwn, slots, cellsOf, OwnArgs, putBack, g2I, g2IC, gLen, gAbs, gGcd, gInt1, gTupleOf, gListOf, gIx, gCatT, gCat, gEq, gNe, gIsN, gNotN, scD, seqD_t, seqD_l, seqD_f, isNonD, List.nodup_cons, List.mem_cons, List.not_mem_nil, or_false, not_false_eq_true, Nat.reduceEqDiff, L3.Keeps, ends, wipeD, List.replicate, List.cons_append, List.nil_append, List.append_nil, List.getElem?_cons_zero, List.getElem?_cons_succ, List.set_cons_zero, List.set_cons_succ, List.getD_cons_zero, List.getD_cons_succ, List.length_cons, List.length_nil, List.nodup_nil, Option.some.injEq, Cell.dat.injEq, Cell.own.injEq, Cont.lst.injEq, D.bl.injEq, D.int.injEq, D.str.injEq, D.tup.injEq, D.lst.injEq, Arg.d.injEq, List.cons.injEq, exists_and_left, exists_and_right, exists_eq_left', exists_eq_left, exists_eq_right, exists_eq_right', exists_eq, exists_eq', and_true, true_and, and_assoc, and_self, exists_const, reduceCtorEq]
          simp at hq ⊢
          exact hq
        | true =>
          cases g2 : isBetw 0 b (.int a) with
          | false =>
            rw [g1, g2] at hq
            simp only [w_is_join, fs_is_tuple_of, fs_is_between, seqD_t, h, hd, hx, hy, g1, g2, wListRg1, wListRg2, wRngDown, wZipK, gInL, gNotInT, wCatOwn, gIsB, gNotB, D.adr.injEq, Cont.pool.injEq, ixN31, ne_eq, List.map_cons, List.map_nil, wPoolOpen, wPoolClose, wPop0, wPopTo, wListOwn, wRemove, wRaise0, wRaise1, wAugOwn, wEnumL, wTru, wSlA, gCatA, gLtT, gLeT, wFrz, wChain3, wAttr, wMkF, wEnumT, wRevT, wDict0, wDict1, numD3, Nat.reduceAdd, atI0, atI1, atI2, atI3, atI4, ixN51, ixN52, ixN53, List.length_map, wNever, scal, V.int.injEq, V.str.injEq, V.bl.injEq, wSq, wNext, wBreak, wCont, wDrop, wRet, wRetN, wIfS, wAsg, wPar, wLstOwn, wAppend, wSetOwn, wIxOwn, wPeek, wRetOwn, wRetFr, wFor, wB, wNot, wAnd, wOr, wAndV, wOrV, wNotV, wIf, wChain, wNil, wCons, wCB, wTup, wLst, wNoPart, wPart, wSlT, wSlL, wSeq, wRng1, wRng2, wZip, wName, wNilT, wConsT, wTupT, wYes, wNeg, wVar, wC, wOp, wcNil, wcCons, wcOwn, wCall, wCallOwn, slots, cellsOf, OwnArgs, putBack, g2I, g2IC, gLen, gAbs, gGcd, gInt1, gTupleOf, gListOf, gIx, gCatT, gCat, gEq, gNe, gIsN, gNotN, scD, seqD_t, seqD_l, seqD_f, isNonD, List.nodup_cons, List.mem_cons, List.not_mem_nil, or_false, not_false_eq_true, Nat.reduceEqDiff, L3.Keeps, ends, wipeD, List.replicate, List.cons_append, List.nil_append, List.append_nil, List.getElem?_cons_zero, List.getElem?_cons_succ, List.set_cons_zero, List.set_cons_succ, List.getD_cons_zero, List.getD_cons_succ, List.length_cons, List.length_nil, List.nodup_nil, Option.some.injEq, Cell.dat.injEq, Cell.own.injEq, Cont.lst.injEq, D.bl.injEq, D.int.injEq, D.str.injEq, D.tup.injEq, D.lst.injEq, Arg.d.injEq, List.cons.injEq, exists_and_left, exists_and_right, exists_eq_left', exists_eq_left, exists_eq_right, exists_eq_right', exists_eq, exists_eq', and_true, true_and, and_assoc, and_self, exists_const, reduceCtorEq]
            simp at hq ⊢
            exact hq
          | true =>
            obtain ⟨_, eb, b0, b1⟩ := betw_int g1
            cases eb
            obtain ⟨_, ea, a0, a1⟩ := betw_int g2
            cases ea
            obtain ⟨c, at1, _⟩ := wAt_get hs a0 (by omega)
            rw [g1, g2] at hq
            simp only [w_is_join, fs_is_tuple_of, fs_is_between, seqD_t, h, hd, hx, hy, g1, g2, at1, wListRg1, wListRg2, wRngDown, wZipK, gInL, gNotInT, wCatOwn, gIsB, gNotB, D.adr.injEq, Cont.pool.injEq, ixN31, ne_eq, List.map_cons, List.map_nil, wPoolOpen, wPoolClose, wPop0, wPopTo, wListOwn, wRemove, wRaise0, wRaise1, wAugOwn, wEnumL, wTru, wSlA, gCatA, gLtT, gLeT, wFrz, wChain3, wAttr, wMkF, wEnumT, wRevT, wDict0, wDict1, numD3, Nat.reduceAdd, atI0, atI1, atI2, atI3, atI4, ixN51, ixN52, ixN53, List.length_map, wNever, scal, V.int.injEq, V.str.injEq, V.bl.injEq, wSq, wNext, wBreak, wCont, wDrop, wRet, wRetN, wIfS, wAsg, wPar, wLstOwn, wAppend, wSetOwn, wIxOwn, wPeek, wRetOwn, wRetFr, wFor, wB, wNot, wAnd, wOr, wAndV, wOrV, wNotV, wIf, wChain, wNil, wCons, wCB, wTup, wLst, wNoPart, wPart, wSlT, wSlL, wSeq, wRng1, wRng2, wZip, wName, wNilT, wConsT, wTupT, wYes, wNeg, wVar, wC, wOp, wcNil, wcCons, wcOwn, wCall, wCallOwn, slots, cellsOf, OwnArgs, putBack, g2I, g2IC, gLen, gAbs, gGcd, gInt1, gTupleOf, gListOf, gIx, gCatT, gCat, gEq, gNe, gIsN, gNotN, scD, seqD_t, seqD_l, seqD_f, isNonD, List.nodup_cons, List.mem_cons, List.not_mem_nil, or_false, not_false_eq_true, Nat.reduceEqDiff, L3.Keeps, ends, wipeD, List.replicate, List.cons_append, List.nil_append, List.append_nil, List.getElem?_cons_zero, List.getElem?_cons_succ, List.set_cons_zero, List.set_cons_succ, List.getD_cons_zero, List.getD_cons_succ, List.length_cons, List.length_nil, List.nodup_nil, Option.some.injEq, Cell.dat.injEq, Cell.own.injEq, Cont.lst.injEq, D.bl.injEq, D.int.injEq, D.str.injEq, D.tup.injEq, D.lst.injEq, Arg.d.injEq, List.cons.injEq, exists_and_left, exists_and_right, exists_eq_left', exists_eq_left, exists_eq_right, exists_eq_right', exists_eq, exists_eq', and_true, true_and, and_assoc, and_self, exists_const, reduceCtorEq]
            simp only [Bool.not_true, Bool.false_eq_true, false_implies, true_implies, true_and]
            simp only [Bool.true_and] at hq
            cases l1 : decide (a < b) with
            | true =>
              rw [l1] at hq
              simp at hq ⊢
              exact hq
            | false =>
              rw [l1] at hq
              simp at hq ⊢
              exact hq
theorem ok_is_join (T : Txt K mg) : FnOk P w K mg base (L2.CX P w) 3 T.f_is_join T.fd_is_join ["sorts", "thing"] (spOf K 2 (fs_is_join K)) := by
  refine def_ok T.F_is_join sc_is_join (wb := w_is_join K) pure_is_join ?_
  intro cdv A outer s H E hr tk
  exact ⟨_, (pss_cons (ps_if (pt_not (pt_val (pe_callS (ok_is_tuple_of T) (hr.mono (by decide)) rfl T.g_is_tuple_of T.k_is_tuple_of T.b_is_tuple_of (fun σ => passAt tk σ) (pa_cons pe_int (pa_cons pe_int (pa_cons (pv 1) pa_nil))))))
        (pss_one (ps_ret pe_bl))
        pss_nil)
      (pss_cons (ps_asg (pv 1) (pg_tup (by rfl) (pgs_cons (pg_name (i := 2) sc_is_join.nd rfl (by first | exact Or.inl rfl | exact Or.inr rfl)) (pgs_cons (pg_name (i := 3) sc_is_join.nd rfl (by first | exact Or.inl rfl | exact Or.inr rfl)) pgs_nil))))
      (pss_cons (ps_if (PW.pt (pw_or (pt_not (pt_val (pe_callS (ok_is_between T) (hr.mono (by decide)) rfl T.g_is_between T.k_is_between T.b_is_between (fun σ => passAt tk σ) (pa_cons pe_int (pa_cons (pe_op op_sub (pe_callB call_len_seq (by rfl) T.z_len (by decide +kernel) (pa_cons (pv 0) pa_nil)) pe_int) (pa_cons (pv 3) pa_nil)))))) (pw_or1 (pt_not (pt_val (pe_callS (ok_is_between T) (hr.mono (by decide)) rfl T.g_is_between T.k_is_between T.b_is_between (fun σ => passAt tk σ) (pa_cons pe_int (pa_cons (pv 3) (pa_cons (pv 2) pa_nil)))))))))
        (pss_one (ps_ret pe_bl))
        pss_nil)
      (pss_one (ps_ret (pe_or (pe_cmpR op_lt (pv 2) (pv 3) (nomark _)) (pe_one (pe_cmpR op_gt (pe_ix ix_seq (pe_ix ix_seq (pv 0) (pv 2) (fun _ _ => rfl)) pe_int (fun _ _ => rfl)) pe_int (nomark _))))))))),
    (ds_seq (ds_if (dt_not (dt_B (de_call (n := 3) (fs := fs_is_tuple_of K) (dac_cons de_int (dac_cons de_int (dac_cons (de_var 1) dac_nil)))))) (ds_ret de_bl) ds_nil)
      (ds_seq (ds_asg (de_var 1) (dg_tup (n := 2) (dgs_cons (dg_name 2) (dgs_cons (dg_name 3) dgs_nil))))
      (ds_seq (ds_if (dt_or (dt_not (dt_B (de_call (n := 3) (fs := fs_is_between K) (dac_cons de_int (dac_cons (de_op o_sub (de_cb o_len (da_cons (de_var 0) da_nil)) de_int) (dac_cons (de_var 3) dac_nil)))))) (dt_not (dt_B (de_call (n := 3) (fs := fs_is_between K) (dac_cons de_int (dac_cons (de_var 3) (dac_cons (de_var 2) dac_nil))))))) (ds_ret de_bl) ds_nil)
      (ds_ret (de_or (de_op o_lt (de_var 2) (de_var 3)) (de_op o_gt (de_op o_ix (de_op o_ix (de_var 0) (de_var 2)) de_int) de_int))))))⟩
abbrev s_is_kind : Stmt := topS 33
theorem sc_is_kind : FnScope ["sorts", "thing", "thresholds", "joins", "join"] ["sorts", "thing"] (defScope s_is_kind) := ⟨rfl, rfl, rfl, by decide +kernel, rfl, by decide +kernel, by decide +kernel⟩
def c1_is_kind (K : PySem.W.Frag) : EW := wLc (wSeq (wVar 3)) (wName 4) wYes (wCall 2 (fs_is_join K) (wcCons (wVar 0) (wcCons (wVar 4) wcNil))) [4]
def w_is_kind (K : PySem.W.Frag) : SW := (wSq (wIfS (wNot (wB (wCall 3 (fs_is_tuple_of K) (wcCons (wC (.int 2)) (wcCons (wC (.int 2)) (wcCons (wVar 1) wcNil)))))) (wRet (wC (.bl false))) wNext)
  (wSq (wAsg (wVar 1) (wTupT 2 (wConsT (wName 2) (wConsT (wName 3) wNilT))))
  (wSq (wIfS (wOr (wNot (wB (wCall 1 (fs_is_list K) (wcCons (wVar 2) wcNil)))) (wOr (wNot (wB (wCB (gIsi K) (wCons (wVar 3) (wCons (wC (.ty "tuple")) wNil))))) (wNot (wTru (wVar 3))))) (wRet (wC (.bl false))) wNext)
  (wRet (wAndV (wCB gAll (wCons (c1_is_kind K) wNil)) (wCall 1 (fs_ascends K) (wcCons (wVar 3) wcNil)))))))
def isKi (ss : List D) : D → Bool | .tup [l, .tup js] => isLi l && !js.isEmpty && (js.all (isJo ss) && ascJ js) | _ => false
theorem ki_not_two {ss : List D} {d : D} (h : isTupOf 2 2 d = false) : isKi ss d = false := by
  cases d with
  | tup ds =>
    match ds with
    | [] => rfl
    | [x] => rfl
    | [x, y] => simp [isTupOf] at h
    | x :: y :: z :: r => cases y <;> rfl
  | _ => rfl
theorem jo_pair {ss : List D} {d : D} (h : isJo ss d = true) : ∃ a b : Int, d = .tup [.int a, .int b] ∧ jo ss a b = true := by
  cases h2 : isTupOf 2 2 d with
  | false => rw [jo_not_two h2] at h; cases h
  | true =>
    obtain ⟨x, y, rfl⟩ := tup_two h2
    cases iy : isIntD y with
    | false => rw [jo_r iy] at h; cases h
    | true =>
      cases ix : isIntD x with
      | false => rw [jo_l ix] at h; cases h
      | true =>
        obtain ⟨a, rfl⟩ := int_of ix
        obtain ⟨b, rfl⟩ := int_of iy
        exact ⟨a, b, rfl, h⟩
/-- a tuple of joins is not long -/
def JsShort : D → Prop | .tup [_, .tup js] => js.length ≤ 900 | _ => True
def fs_is_kind (K : PySem.W.Frag) : FS := fun cs q _ => ∃ (ss : List D) (d : D), cs = [.dat (.tup ss), .dat d] ∧ (∀ d ∈ ss, isSo d = true) ∧ OkD K d ∧ JsShort d ∧ q (.bl (isKi ss d)) cs
theorem c1_is_kind_ok {ss js : List D} {c1 c2 c4 : Cell} {q : D → List Cell → Prop} {e : Xn → List Cell → Prop} (hs : ∀ d ∈ ss, isSo d = true) (hd : OkD K (.tup js)) (hn : js.length ≤ 1000)
    (hq : q (.lst (js.map fun d => .bl (isJo ss d))) [.dat (.tup ss), c1, c2, .dat (.tup js), .any]) : c1_is_kind K [.dat (.tup ss), c1, c2, .dat (.tup js), c4] q e := by
  unfold c1_is_kind wLc
  refine ⟨_, rfl, js, rfl, lc_fm (fun d => .bl (isJo ss d)) (fun _ => true) hn (fun d hm k1 k2 h1 _ => ?_) (by rw [filter_true]; exact hq)⟩
  simp only [fs_is_join, okTup hd hm, wListRg1, wListRg2, wRngDown, wZipK, gInL, gNotInT, wCatOwn, gIsB, gNotB, D.adr.injEq, Cont.pool.injEq, ixN31, ne_eq, List.map_cons, List.map_nil, wPoolOpen, wPoolClose, wPop0, wPopTo, wListOwn, wRemove, wRaise0, wRaise1, wAugOwn, wEnumL, wTru, wSlA, gCatA, gLtT, gLeT, wFrz, wChain3, wAttr, wMkF, wEnumT, wRevT, wDict0, wDict1, numD3, Nat.reduceAdd, atI0, atI1, atI2, atI3, atI4, ixN51, ixN52, ixN53, List.length_map, wNever, scal, V.int.injEq, V.str.injEq, V.bl.injEq, wSq, wNext, wBreak, wCont, wDrop, wRet, wRetN, wIfS, wAsg, wPar, wLstOwn, wAppend, wSetOwn, wIxOwn, wPeek, wRetOwn, wRetFr, wFor, wB, wNot, wAnd, wOr, wAndV, wOrV, wNotV, wIf, wChain, wNil, wCons, wCB, wTup, wLst, wNoPart, wPart, wSlT, wSlL, wSeq, wRng1, wRng2, wZip, wName, wNilT, wConsT, wTupT, wYes, wNeg, wVar, wC, wOp, wcNil, wcCons, wcOwn, wCall, wCallOwn, slots, cellsOf, OwnArgs, putBack, g2I, g2IC, gLen, gAbs, gGcd, gInt1, gTupleOf, gListOf, gIx, gCatT, gCat, gEq, gNe, gIsN, gNotN, scD, seqD_t, seqD_l, seqD_f, isNonD, List.nodup_cons, List.mem_cons, List.not_mem_nil, or_false, not_false_eq_true, Nat.reduceEqDiff, L3.Keeps, ends, wipeD, List.replicate, List.cons_append, List.nil_append, List.append_nil, List.getElem?_cons_zero, List.getElem?_cons_succ, List.set_cons_zero, List.set_cons_succ, List.getD_cons_zero, List.getD_cons_succ, List.length_cons, List.length_nil, List.nodup_nil, Option.some.injEq, Cell.dat.injEq, Cell.own.injEq, Cont.lst.injEq, D.bl.injEq, D.int.injEq, D.str.injEq, D.tup.injEq, D.lst.injEq, Arg.d.injEq, List.cons.injEq, exists_and_left, exists_and_right, exists_eq_left', exists_eq_left, exists_eq_right, exists_eq_right', exists_eq, exists_eq', and_true, true_and, and_assoc, and_self, exists_const, reduceCtorEq]
  simp only [true_implies]
  exact ⟨⟨hs, h1 rfl _ rfl⟩, fun z => nomatch z⟩
theorem pure_is_kind : PureD 2 3 (fs_is_kind K) (w_is_kind K) := by
  rintro cs q e - ⟨ss, d, rfl, hs, hd, hj, hq⟩
  cases h : isTupOf 2 2 d with
  | false =>
    rw [ki_not_two h] at hq
    simp only [w_is_kind, fs_is_tuple_of, h, hd, wListRg1, wListRg2, wRngDown, wZipK, gInL, gNotInT, wCatOwn, gIsB, gNotB, D.adr.injEq, Cont.pool.injEq, ixN31, ne_eq, List.map_cons, List.map_nil, wPoolOpen, wPoolClose, wPop0, wPopTo, wListOwn, wRemove, wRaise0, wRaise1, wAugOwn, wEnumL, wTru, wSlA, gCatA, gLtT, gLeT, wFrz, wChain3, wAttr, wMkF, wEnumT, wRevT, wDict0, wDict1, numD3, Nat.reduceAdd, atI0, atI1, atI2, atI3, atI4, ixN51, ixN52, ixN53, List.length_map, wNever, scal, V.int.injEq, V.str.injEq, V.bl.injEq, wSq, wNext, wBreak, wCont, wDrop, wRet, wRetN, wIfS, wAsg, wPar, wLstOwn, wAppend, wSetOwn, wIxOwn, wPeek, wRetOwn, wRetFr, wFor, wB, wNot, wAnd, wOr, wAndV, wOrV, wNotV, wIf, wChain, wNil, wCons, wCB, wTup, wLst, wNoPart, wPart, wSlT, wSlL, wSeq, wRng1, wRng2, wZip, wName, wNilT, wConsT, wTupT, wYes, wNeg, wVar, wC, wOp, wcNil, wcCons, wcOwn, wCall, wCallOwn, slots, cellsOf, OwnArgs, putBack, g2I, g2IC, gLen, gAbs, gGcd, gInt1, gTupleOf, gListOf, gIx, gCatT, gCat, gEq, gNe, gIsN, gNotN, scD, seqD_t, seqD_l, seqD_f, isNonD, List.nodup_cons, List.mem_cons, List.not_mem_nil, or_false, not_false_eq_true, Nat.reduceEqDiff, L3.Keeps, ends, wipeD, List.replicate, List.cons_append, List.nil_append, List.append_nil, List.getElem?_cons_zero, List.getElem?_cons_succ, List.set_cons_zero, List.set_cons_succ, List.getD_cons_zero, List.getD_cons_succ, List.length_cons, List.length_nil, List.nodup_nil, Option.some.injEq, Cell.dat.injEq, Cell.own.injEq, Cont.lst.injEq, D.bl.injEq, D.int.injEq, D.str.injEq, D.tup.injEq, D.lst.injEq, Arg.d.injEq, List.cons.injEq, exists_and_left, exists_and_right, exists_eq_left', exists_eq_left, exists_eq_right, exists_eq_right', exists_eq, exists_eq', and_true, true_and, and_assoc, and_self, exists_const, reduceCtorEq]
    simpa using hq
  | true =>
    obtain ⟨l, js, rfl⟩ := tup_two h
    have hl := okTup hd (d := l) (by simp)
    have hjs := okTup hd (d := js) (by simp)
    cases g1 : isLi l with
    | false =>
      have e1 : isKi ss (.tup [l, js]) = false := by cases js <;> simp [isKi, g1]
      rw [e1] at hq
      simp only [w_is_kind, fs_is_tuple_of, fs_is_list, seqD_t, h, hd, hl, hjs, g1, wListRg1, wListRg2, wRngDown, wZipK, gInL, gNotInT, wCatOwn, gIsB, gNotB, D.adr.injEq, Cont.pool.injEq, ixN31, ne_eq, List.map_cons, List.map_nil, wPoolOpen, wPoolClose, wPop0, wPopTo, wListOwn, wRemove, wRaise0, wRaise1, wAugOwn, wEnumL, wTru, wSlA, gCatA, gLtT, gLeT, wFrz, wChain3, wAttr, wMkF, wEnumT, wRevT, wDict0, wDict1, numD3, Nat.reduceAdd, atI0, atI1, atI2, atI3, atI4, ixN51, ixN52, ixN53, List.length_map, wNever, scal, V.int.injEq, V.str.injEq, V.bl.injEq, wSq, wNext, wBreak, wCont, wDrop, wRet, wRetN, wIfS, wAsg, wPar, wLstOwn, wAppend, wSetOwn, wIxOwn, wPeek, wRetOwn, wRetFr, wFor, wB, wNot, wAnd, wOr, wAndV, wOrV, wNotV, wIf, wChain, wNil, wCons, wCB, wTup, wLst, wNoPart, wPart, wSlT, wSlL, wSeq, wRng1, wRng2, wZip, wName, wNilT, wConsT, wTupT, wYes, wNeg, wVar, wC, wOp, wcNil, wcCons, wcOwn, wCall, wCallOwn, slots, cellsOf, OwnArgs, putBack, g2I, g2IC, gLen, gAbs, gGcd, gInt1, gTupleOf, gListOf, gIx, gCatT, gCat, gEq, gNe, gIsN, gNotN, scD, seqD_t, seqD_l, seqD_f, isNonD, List.nodup_cons, List.mem_cons, List.not_mem_nil, or_false, not_false_eq_true, Nat.reduceEqDiff, L3.Keeps, ends, wipeD, List.replicate, List.cons_append, List.nil_append, List.append_nil, List.getElem?_cons_zero, List.getElem?_cons_succ, List.set_cons_zero, List.set_cons_succ, List.getD_cons_zero, List.getD_cons_succ, List.length_cons, List.length_nil, List.nodup_nil, Option.some.injEq, Cell.dat.injEq, Cell.own.injEq, Cont.lst.injEq, D.bl.injEq, D.int.injEq, D.str.injEq, D.tup.injEq, D.lst.injEq, Arg.d.injEq, List.cons.injEq, exists_and_left, exists_and_right, exists_eq_left', exists_eq_left, exists_eq_right, exists_eq_right', exists_eq, exists_eq', and_true, true_and, and_assoc, and_self, exists_const, reduceCtorEq]
      simp
      exact hq
    | true =>
      simp only [w_is_kind, fs_is_tuple_of, fs_is_list, seqD_t, gIsi_iff hjs (show "tuple" ∈ kinds by simp), h, hd, hl, hjs, g1, wListRg1, wListRg2, wRngDown, wZipK, gInL, gNotInT, wCatOwn, gIsB, gNotB, D.adr.injEq, Cont.pool.injEq, ixN31, ne_eq, List.map_cons, List.map_nil, wPoolOpen, wPoolClose, wPop0, wPopTo, wListOwn, wRemove, wRaise0, wRaise1, wAugOwn, wEnumL, wTru, wSlA, gCatA, gLtT, gLeT, wFrz, wChain3, wAttr, wMkF, wEnumT, wRevT, wDict0, wDict1, numD3, Nat.reduceAdd, atI0, atI1, atI2, atI3, atI4, ixN51, ixN52, ixN53, List.length_map, wNever, scal, V.int.injEq, V.str.injEq, V.bl.injEq, wSq, wNext, wBreak, wCont, wDrop, wRet, wRetN, wIfS, wAsg, wPar, wLstOwn, wAppend, wSetOwn, wIxOwn, wPeek, wRetOwn, wRetFr, wFor, wB, wNot, wAnd, wOr, wAndV, wOrV, wNotV, wIf, wChain, wNil, wCons, wCB, wTup, wLst, wNoPart, wPart, wSlT, wSlL, wSeq, wRng1, wRng2, wZip, wName, wNilT, wConsT, wTupT, wYes, wNeg, wVar, wC, wOp, wcNil, wcCons, wcOwn, wCall, wCallOwn, slots, cellsOf, OwnArgs, putBack, g2I, g2IC, gLen, gAbs, gGcd, gInt1, gTupleOf, gListOf, gIx, gCatT, gCat, gEq, gNe, gIsN, gNotN, scD, seqD_t, seqD_l, seqD_f, isNonD, List.nodup_cons, List.mem_cons, List.not_mem_nil, or_false, not_false_eq_true, Nat.reduceEqDiff, L3.Keeps, ends, wipeD, List.replicate, List.cons_append, List.nil_append, List.append_nil, List.getElem?_cons_zero, List.getElem?_cons_succ, List.set_cons_zero, List.set_cons_succ, List.getD_cons_zero, List.getD_cons_succ, List.length_cons, List.length_nil, List.nodup_nil, Option.some.injEq, Cell.dat.injEq, Cell.own.injEq, Cont.lst.injEq, D.bl.injEq, D.int.injEq, D.str.injEq, D.tup.injEq, D.lst.injEq, Arg.d.injEq, List.cons.injEq, exists_and_left, exists_and_right, exists_eq_left', exists_eq_left, exists_eq_right, exists_eq_right', exists_eq, exists_eq', and_true, true_and, and_assoc, and_self, exists_const, reduceCtorEq]
      cases js with
      | tup js =>
        have hn : js.length ≤ 900 := hj
        cases g2 : js.isEmpty with
        | true =>
          have e1 : isKi ss (.tup [l, .tup js]) = false := by simp [isKi, g2]
          rw [e1] at hq
          simp only [isiD, truD, g2, wListRg1, wListRg2, wRngDown, wZipK, gInL, gNotInT, wCatOwn, gIsB, gNotB, D.adr.injEq, Cont.pool.injEq, ixN31, ne_eq, List.map_cons, List.map_nil, wPoolOpen, wPoolClose, wPop0, wPopTo, wListOwn, wRemove, wRaise0, wRaise1, wAugOwn, wEnumL, wTru, wSlA, gCatA, gLtT, gLeT, wFrz, wChain3, wAttr, wMkF, wEnumT, wRevT, wDict0, wDict1, numD3, Nat.reduceAdd, atI0, atI1, atI2, atI3, atI4, ixN51, ixN52, ixN53, List.length_map, wNever, scal, V.int.injEq, V.str.injEq, V.bl.injEq, wSq, wNext, wBreak, wCont, wDrop, wRet, wRetN, wIfS, wAsg, wPar, wLstOwn, wAppend, wSetOwn, wIxOwn, wPeek, wRetOwn, wRetFr, wFor, wB, wNot, wAnd, wOr, wAndV, wOrV, wNotV, wIf, wChain, wNil, wCons, wCB, wTup, wLst, wNoPart, wPart, wSlT, wSlL, wSeq, wRng1, wRng2, wZip, wName, wNilT, wConsT, wTupT, wYes, wNeg, wVar, wC, wOp, wcNil, wcCons, wcOwn, wCall, wCallOwn, slots, cellsOf, OwnArgs, putBack, g2I, g2IC, gLen, gAbs, gGcd, gInt1, gTupleOf, gListOf, gIx, gCatT, gCat, gEq, gNe, gIsN, gNotN, scD, seqD_t, seqD_l, seqD_f, isNonD, List.nodup_cons, List.mem_cons, List.not_mem_nil, or_false, not_false_eq_true, Nat.reduceEqDiff, L3.Keeps, ends, wipeD, List.replicate, List.cons_append, List.nil_append, List.append_nil, List.getElem?_cons_zero, List.getElem?_cons_succ, List.set_cons_zero, List.set_cons_succ, List.getD_cons_zero, List.getD_cons_succ, List.length_cons, List.length_nil, List.nodup_nil, Option.some.injEq, Cell.dat.injEq, Cell.own.injEq, Cont.lst.injEq, D.bl.injEq, D.int.injEq, D.str.injEq, D.tup.injEq, D.lst.injEq, Arg.d.injEq, List.cons.injEq, exists_and_left, exists_and_right, exists_eq_left', exists_eq_left, exists_eq_right, exists_eq_right', exists_eq, exists_eq', and_true, true_and, and_assoc, and_self, exists_const, reduceCtorEq]
          simp
          exact hq
        | false =>
          have e1 : isKi ss (.tup [l, .tup js]) = (js.all (isJo ss) && ascJ js) := by simp [isKi, g1, g2]
          rw [e1] at hq
          simp only [isiD, truD, g2, wListRg1, wListRg2, wRngDown, wZipK, gInL, gNotInT, wCatOwn, gIsB, gNotB, D.adr.injEq, Cont.pool.injEq, ixN31, ne_eq, List.map_cons, List.map_nil, wPoolOpen, wPoolClose, wPop0, wPopTo, wListOwn, wRemove, wRaise0, wRaise1, wAugOwn, wEnumL, wTru, wSlA, gCatA, gLtT, gLeT, wFrz, wChain3, wAttr, wMkF, wEnumT, wRevT, wDict0, wDict1, numD3, Nat.reduceAdd, atI0, atI1, atI2, atI3, atI4, ixN51, ixN52, ixN53, List.length_map, wNever, scal, V.int.injEq, V.str.injEq, V.bl.injEq, wSq, wNext, wBreak, wCont, wDrop, wRet, wRetN, wIfS, wAsg, wPar, wLstOwn, wAppend, wSetOwn, wIxOwn, wPeek, wRetOwn, wRetFr, wFor, wB, wNot, wAnd, wOr, wAndV, wOrV, wNotV, wIf, wChain, wNil, wCons, wCB, wTup, wLst, wNoPart, wPart, wSlT, wSlL, wSeq, wRng1, wRng2, wZip, wName, wNilT, wConsT, wTupT, wYes, wNeg, wVar, wC, wOp, wcNil, wcCons, wcOwn, wCall, wCallOwn, slots, cellsOf, OwnArgs, putBack, g2I, g2IC, gLen, gAbs, gGcd, gInt1, gTupleOf, gListOf, gIx, gCatT, gCat, gEq, gNe, gIsN, gNotN, scD, seqD_t, seqD_l, seqD_f, isNonD, List.nodup_cons, List.mem_cons, List.not_mem_nil, or_false, not_false_eq_true, Nat.reduceEqDiff, L3.Keeps, ends, wipeD, List.replicate, List.cons_append, List.nil_append, List.append_nil, List.getElem?_cons_zero, List.getElem?_cons_succ, List.set_cons_zero, List.set_cons_succ, List.getD_cons_zero, List.getD_cons_succ, List.length_cons, List.length_nil, List.nodup_nil, Option.some.injEq, Cell.dat.injEq, Cell.own.injEq, Cont.lst.injEq, D.bl.injEq, D.int.injEq, D.str.injEq, D.tup.injEq, D.lst.injEq, Arg.d.injEq, List.cons.injEq, exists_and_left, exists_and_right, exists_eq_left', exists_eq_left, exists_eq_right, exists_eq_right', exists_eq, exists_eq', and_true, true_and, and_assoc, and_self, exists_const, reduceCtorEq]
          simp
          refine c1_is_kind_ok hs hjs (by omega) ?_
          refine gAll_map ?_
          cases ht : js.all (isJo ss) with
          | false =>
            rw [ht] at hq
            simp only [wListRg1, wListRg2, wRngDown, wZipK, gInL, gNotInT, wCatOwn, gIsB, gNotB, D.adr.injEq, Cont.pool.injEq, ixN31, ne_eq, List.map_cons, List.map_nil, wPoolOpen, wPoolClose, wPop0, wPopTo, wListOwn, wRemove, wRaise0, wRaise1, wAugOwn, wEnumL, wTru, wSlA, gCatA, gLtT, gLeT, wFrz, wChain3, wAttr, wMkF, wEnumT, wRevT, wDict0, wDict1, numD3, Nat.reduceAdd, atI0, atI1, atI2, atI3, atI4, ixN51, ixN52, ixN53, List.length_map, wNever, scal, V.int.injEq, V.str.injEq, V.bl.injEq, wSq, wNext, wBreak, wCont, wDrop, wRet, wRetN, wIfS, wAsg, wPar, wLstOwn, wAppend, wSetOwn, wIxOwn, wPeek, wRetOwn, wRetFr, wFor, wB, wNot, wAnd, wOr, wAndV, wOrV, wNotV, wIf, wChain, wNil, wCons, wCB, wTup, wLst, wNoPart, wPart, wSlT, wSlL, wSeq, wRng1, wRng2, wZip, wName, wNilT, wConsT, wTupT, wYes, wNeg, wVar, wC, wOp, wcNil, wcCons, wcOwn, wCall, wCallOwn, slots, cellsOf, OwnArgs, putBack, g2I, g2IC, gLen, gAbs, gGcd, gInt1, gTupleOf, gListOf, gIx, gCatT, gCat, gEq, gNe, gIsN, gNotN, scD, seqD_t, seqD_l, seqD_f, isNonD, List.nodup_cons, List.mem_cons, List.not_mem_nil, or_false, not_false_eq_true, Nat.reduceEqDiff, L3.Keeps, ends, wipeD, List.replicate, List.cons_append, List.nil_append, List.append_nil, List.getElem?_cons_zero, List.getElem?_cons_succ, List.set_cons_zero, List.set_cons_succ, List.getD_cons_zero, List.getD_cons_succ, List.length_cons, List.length_nil, List.nodup_nil, Option.some.injEq, Cell.dat.injEq, Cell.own.injEq, Cont.lst.injEq, D.bl.injEq, D.int.injEq, D.str.injEq, D.tup.injEq, D.lst.injEq, Arg.d.injEq, List.cons.injEq, exists_and_left, exists_and_right, exists_eq_left', exists_eq_left, exists_eq_right, exists_eq_right', exists_eq, exists_eq', and_true, true_and, and_assoc, and_self, exists_const, reduceCtorEq]
            simpa using hq
          | true =>
            rw [ht] at hq
            simp only [fs_ascends, wListRg1, wListRg2, wRngDown, wZipK, gInL, gNotInT, wCatOwn, gIsB, gNotB, D.adr.injEq, Cont.pool.injEq, ixN31, ne_eq, List.map_cons, List.map_nil, wPoolOpen, wPoolClose, wPop0, wPopTo, wListOwn, wRemove, wRaise0, wRaise1, wAugOwn, wEnumL, wTru, wSlA, gCatA, gLtT, gLeT, wFrz, wChain3, wAttr, wMkF, wEnumT, wRevT, wDict0, wDict1, numD3, Nat.reduceAdd, atI0, atI1, atI2, atI3, atI4, ixN51, ixN52, ixN53, List.length_map, wNever, scal, V.int.injEq, V.str.injEq, V.bl.injEq, wSq, wNext, wBreak, wCont, wDrop, wRet, wRetN, wIfS, wAsg, wPar, wLstOwn, wAppend, wSetOwn, wIxOwn, wPeek, wRetOwn, wRetFr, wFor, wB, wNot, wAnd, wOr, wAndV, wOrV, wNotV, wIf, wChain, wNil, wCons, wCB, wTup, wLst, wNoPart, wPart, wSlT, wSlL, wSeq, wRng1, wRng2, wZip, wName, wNilT, wConsT, wTupT, wYes, wNeg, wVar, wC, wOp, wcNil, wcCons, wcOwn, wCall, wCallOwn, slots, cellsOf, OwnArgs, putBack, g2I, g2IC, gLen, gAbs, gGcd, gInt1, gTupleOf, gListOf, gIx, gCatT, gCat, gEq, gNe, gIsN, gNotN, scD, seqD_t, seqD_l, seqD_f, isNonD, List.nodup_cons, List.mem_cons, List.not_mem_nil, or_false, not_false_eq_true, Nat.reduceEqDiff, L3.Keeps, ends, wipeD, List.replicate, List.cons_append, List.nil_append, List.append_nil, List.getElem?_cons_zero, List.getElem?_cons_succ, List.set_cons_zero, List.set_cons_succ, List.getD_cons_zero, List.getD_cons_succ, List.length_cons, List.length_nil, List.nodup_nil, Option.some.injEq, Cell.dat.injEq, Cell.own.injEq, Cont.lst.injEq, D.bl.injEq, D.int.injEq, D.str.injEq, D.tup.injEq, D.lst.injEq, Arg.d.injEq, List.cons.injEq, exists_and_left, exists_and_right, exists_eq_left', exists_eq_left, exists_eq_right, exists_eq_right', exists_eq, exists_eq', and_true, true_and, and_assoc, and_self, exists_const, reduceCtorEq]
            simp
            refine ⟨hn, fun d hm => ?_, hq⟩
            obtain ⟨a, b, rfl, _⟩ := jo_pair (List.all_eq_true.mp ht d hm)
            exact ⟨a, b, rfl⟩
      | _ =>
        simp only [isiD, wListRg1, wListRg2, wRngDown, wZipK, gInL, gNotInT, wCatOwn, gIsB, gNotB, D.adr.injEq, Cont.pool.injEq, ixN31, ne_eq, List.map_cons, List.map_nil, wPoolOpen, wPoolClose, wPop0, wPopTo, wListOwn, wRemove, wRaise0, wRaise1, wAugOwn, wEnumL, wTru, wSlA, gCatA, gLtT, gLeT, wFrz, wChain3, wAttr, wMkF, wEnumT, wRevT, wDict0, wDict1, numD3, Nat.reduceAdd, atI0, atI1, atI2, atI3, atI4, ixN51, ixN52, ixN53, List.length_map, wNever, scal, V.int.injEq, V.str.injEq, V.bl.injEq, wSq, wNext, wBreak, wCont, wDrop, wRet, wRetN, wIfS, wAsg, wPar, wLstOwn, wAppend, wSetOwn, wIxOwn, wPeek, wRetOwn, wRetFr, wFor, wB, wNot, wAnd, wOr, wAndV, wOrV, wNotV, wIf, wChain, wNil, wCons, wCB, wTup, wLst, wNoPart, wPart, wSlT, wSlL, wSeq, wRng1, wRng2, wZip, wName, wNilT, wConsT, wTupT, wYes, wNeg, wVar, wC, wOp, wcNil, wcCons, wcOwn, wCall, wCallOwn, slots, cellsOf, OwnArgs, putBack, g2I, g2IC, gLen, gAbs, gGcd, gInt1, gTupleOf, gListOf, gIx, gCatT, gCat, gEq, gNe, gIsN, gNotN, scD, seqD_t, seqD_l, seqD_f, isNonD, List.nodup_cons, List.mem_cons, List.not_mem_nil, or_false, not_false_eq_true, Nat.reduceEqDiff, L3.Keeps, ends, wipeD, List.replicate, List.cons_append, List.nil_append, List.append_nil, List.getElem?_cons_zero, List.getElem?_cons_succ, List.set_cons_zero, List.set_cons_succ, List.getD_cons_zero, List.getD_cons_succ, List.length_cons, List.length_nil, List.nodup_nil, Option.some.injEq, Cell.dat.injEq, Cell.own.injEq, Cont.lst.injEq, D.bl.injEq, D.int.injEq, D.str.injEq, D.tup.injEq, D.lst.injEq, Arg.d.injEq, List.cons.injEq, exists_and_left, exists_and_right, exists_eq_left', exists_eq_left, exists_eq_right, exists_eq_right', exists_eq, exists_eq', and_true, true_and, and_assoc, and_self, exists_const, reduceCtorEq]
        simp
        exact hq
theorem ok_is_kind (T : Txt K mg) : FnOk P w K mg base (L2.CX P w) 5 T.f_is_kind T.fd_is_kind ["sorts", "thing"] (spOf K 2 (fs_is_kind K)) := by
  refine def_ok T.F_is_kind sc_is_kind (wb := w_is_kind K) pure_is_kind ?_
  intro cdv A outer s H E hr tk
  exact ⟨_, (pss_cons (ps_if (pt_not (pt_val (pe_callS (ok_is_tuple_of T) (hr.mono (by decide)) rfl T.g_is_tuple_of T.k_is_tuple_of T.b_is_tuple_of (fun σ => passAt tk σ) (pa_cons pe_int (pa_cons pe_int (pa_cons (pv 1) pa_nil))))))
        (pss_one (ps_ret pe_bl))
        pss_nil)
      (pss_cons (ps_asg (pv 1) (pg_tup (by rfl) (pgs_cons (pg_name (i := 2) sc_is_kind.nd rfl (by first | exact Or.inl rfl | exact Or.inr rfl)) (pgs_cons (pg_name (i := 3) sc_is_kind.nd rfl (by first | exact Or.inl rfl | exact Or.inr rfl)) pgs_nil))))
      (pss_cons (ps_if (PW.pt (pw_or (pt_not (pt_val (pe_callS (ok_is_list T) (hr.mono (by decide)) rfl T.g_is_list T.k_is_list T.b_is_list (fun σ => passAt tk σ) (pa_cons (pv 2) pa_nil)))) (pw_or (pt_not (pt_val (pe_callB call_isi (by rfl) T.z_isinstance (by decide +kernel) (pa_cons (pv 3) (pa_cons (pe_bltn (v := .ty "tuple") (by rfl) T.z_tuple (by decide +kernel) rfl) pa_nil))))) (pw_or1 (pt_not (pt_truth (pv 3) (fun _ => rfl)))))))
        (pss_one (ps_ret pe_bl))
        pss_nil)
      (pss_one (ps_ret (pe_and (pe_callB (cr_all (by rfl)) (by rfl) T.z_all (by decide +kernel) (pa_cons (pe_lc (own := [("join", 4)]) (g := (gName 4)) (tt := tYes) (te := (tCallS (spOf K 2 (fs_is_join K)) (L2.WE W0) (tCons (tVar 0) (tCons (tVar 4) tNil)))) rfl sc_is_kind.nd (pi_seq (pv 3)) (blkOk_by (N := ["sorts", "thing", "thresholds", "joins", "join"]) (sc := defScope s_is_kind) (by decide +kernel)) (fun _ _ _ _ _ => (pg_name (i := 4) sc_is_kind.nd rfl (by first | exact Or.inl rfl | exact Or.inr rfl))) (fun _ _ _ _ _ => pts_nil) (fun _ _ _ _ _ => (pe_callS (ok_is_join T) (hr.mono (by decide)) rfl T.g_is_join T.k_is_join T.b_is_join (fun σ => passAt L2.takes0 σ) (pa_cons (pv 0) (pa_cons (pv 4) pa_nil))))) pa_nil)) (pe_one (pe_callS (ok_ascends T) (hr.mono (by decide)) rfl T.g_ascends T.k_ascends T.b_ascends (fun σ => passAt tk σ) (pa_cons (pv 3) pa_nil))))))))),
    (ds_seq (ds_if (dt_not (dt_B (de_call (n := 3) (fs := fs_is_tuple_of K) (dac_cons de_int (dac_cons de_int (dac_cons (de_var 1) dac_nil)))))) (ds_ret de_bl) ds_nil)
      (ds_seq (ds_asg (de_var 1) (dg_tup (n := 2) (dgs_cons (dg_name 2) (dgs_cons (dg_name 3) dgs_nil))))
      (ds_seq (ds_if (dt_or (dt_not (dt_B (de_call (n := 1) (fs := fs_is_list K) (dac_cons (de_var 2) dac_nil)))) (dt_or (dt_not (dt_B (de_cb o_isi (da_cons (de_var 3) (da_cons de_ty da_nil))))) (dt_not (dt_tru (de_var 3))))) (ds_ret de_bl) ds_nil)
      (ds_ret (de_and (de_cb o_all (da_cons (de_lc (vs := [4]) (wI := (wSeq (wVar 3))) (wg := (wName 4)) (wt := wYes) (we := (wCall 2 (fs_is_join K) (wcCons (wVar 0) (wcCons (wVar 4) wcNil)))) (di_seq (de_var 3)) (dg_name 4) dt_yes (de_call (n := 2) (fs := fs_is_join K) (dac_cons (de_var 0) (dac_cons (de_var 4) dac_nil))) (by decide)) da_nil)) (de_call (n := 1) (fs := fs_ascends K) (dac_cons (de_var 3) dac_nil)))))))⟩
abbrev s_Book__init__ : Stmt := inClass (topS 34) 0
theorem sc_Book__init__ : FnScope ["self", "sorts", "kinds", "number", "kind"] ["self", "sorts", "kinds"] (defScope s_Book__init__) := ⟨rfl, rfl, rfl, by decide +kernel, rfl, by decide +kernel, by decide +kernel⟩
def l1_Book__init__ (K : PySem.W.Frag) (Z : CT) : SW := wFor (wEnumT (wCons (wVar 2) wNil)) (wTupT 2 (wConsT (wName 3) (wConsT (wName 4) wNilT))) (wIfS (wNot (wB (wCall 2 (fs_is_kind K) (wcCons (wVar 1) (wcCons (wVar 4) wcNil))))) (wRaise1 Z.C_BadBook "part" (wVar 3)) wNext)
def w_Book__init__ (K : PySem.W.Frag) (Z : CT) : SW := (wSq (wIfS (wNot (wB (wCall 1 (fs_is_sort_tuple K) (wcCons (wVar 1) wcNil)))) (wRaise1 Z.C_BadBook "part" (wC (.str "sorts"))) wNext)
  (wSq (wIfS (wNot (wB (wCall 3 (fs_is_tuple_of K) (wcCons (wC (.int 0)) (wcCons (wC (.int 5)) (wcCons (wVar 2) wcNil)))))) (wRaise1 Z.C_BadBook "part" (wC (.str "kinds"))) wNext)
  (wSq (l1_Book__init__ K Z)
  (wSq (wFld Z.C_Book 0 "sorts" (wVar 1))
  (wFld Z.C_Book 0 "kinds" (wVar 2))))))
def firstBadP (P : D → Bool) : Nat → List D → Option Nat
  | _, [] => none
  | k, d :: r => if P d = true then firstBadP P (k + 1) r else some k
def badBook (ss ks : D) : Option D :=
  if isSs ss = false then some (.str "sorts") else if isTupOf 0 5 ks = false then some (.str "kinds") else
  match ss, ks with
  | .tup us, .tup ds => (firstBadP (isKi us) 0 ds).map fun i => .int (i : Nat)
  | _, _ => none
/-- kinds with joins that are not long -/
def KsShort : D → Prop | .tup ds => ∀ d ∈ ds, JsShort d | _ => True
def fs_Book__init__ (K : PySem.W.Frag) (Z : CT) : FS := fun cs q e => ∃ x dx ws ps, cs = [.own x (.obj Z.C_Book dx []), .dat ws, .dat ps] ∧ OkD K ws ∧ OkD K ps ∧ KsShort ps ∧
  (∀ part, badBook ws ps = some part → e ⟨Z.C_BadBook, [("part", part)]⟩ cs) ∧ (badBook ws ps = none → q .non [.own x (.obj Z.C_Book dx [("sorts", ws), ("kinds", ps)]), .dat ws, .dat ps])
theorem l1_Book__init___ok {Z : CT} {c0 c3 c4 : Cell} {us ds : List D} {E : EndsD} (hu : ∀ d ∈ us, isSo d = true) (hd : OkD K (.tup ds)) (hj : KsShort (.tup ds)) (hb : ∀ i, firstBadP (isKi us) 0 ds = some i → ∀ c3 c4, E.ex ⟨Z.C_BadBook, [("part", .int (i : Nat))]⟩ [c0, .dat (.tup us), .dat (.tup ds), c3, c4]) (hn : firstBadP (isKi us) 0 ds = none → ∀ c3 c4, E.nx [c0, .dat (.tup us), .dat (.tup ds), c3, c4]) : l1_Book__init__ K Z E [c0, .dat (.tup us), .dat (.tup ds), c3, c4] := by
  unfold l1_Book__init__ wFor
  refine ⟨_, rfl, ds, rfl, fun i τ => (∃ c3 c4, τ = [c0, .dat (.tup us), .dat (.tup ds), c3, c4]) ∧ firstBadP (isKi us) 0 ds = firstBadP (isKi us) i (ds.drop i), ⟨⟨_, _, rfl⟩, rfl⟩, ?_, ?_⟩
  · rintro i d τ2 hi ⟨⟨c3, c4, rfl⟩, hf⟩
    have hlt : i < ds.length := by
      have := (List.getElem?_eq_some_iff.mp hi).1
      rwa [List.length_mapIdx] at this
    rw [List.getElem?_mapIdx, List.getElem?_eq_getElem hlt] at hi
    cases hi
    have ok : OkD K ds[i] := okTup hd (List.getElem_mem hlt)
    have sj : JsShort ds[i] := hj _ (List.getElem_mem hlt)
    rw [List.drop_eq_getElem_cons hlt, firstBadP] at hf
    cases h : isKi us ds[i] with
    | false =>
      rw [h] at hf
      simp only [fs_is_kind, wRaise1, seqD_t, ok, sj, h, wListRg1, wListRg2, wRngDown, wZipK, gInL, gNotInT, wCatOwn, gIsB, gNotB, D.adr.injEq, Cont.pool.injEq, ixN31, ne_eq, List.map_cons, List.map_nil, wPoolOpen, wPoolClose, wPop0, wPopTo, wListOwn, wRemove, wRaise0, wRaise1, wAugOwn, wEnumL, wTru, wSlA, gCatA, gLtT, gLeT, wFrz, wChain3, wAttr, wMkF, wEnumT, wRevT, wDict0, wDict1, numD3, Nat.reduceAdd, atI0, atI1, atI2, atI3, atI4, ixN51, ixN52, ixN53, List.length_map, wNever, scal, V.int.injEq, V.str.injEq, V.bl.injEq, wSq, wNext, wBreak, wCont, wDrop, wRet, wRetN, wIfS, wAsg, wPar, wLstOwn, wAppend, wSetOwn, wIxOwn, wPeek, wRetOwn, wRetFr, wFor, wB, wNot, wAnd, wOr, wAndV, wOrV, wNotV, wIf, wChain, wNil, wCons, wCB, wTup, wLst, wNoPart, wPart, wSlT, wSlL, wSeq, wRng1, wRng2, wZip, wName, wNilT, wConsT, wTupT, wYes, wNeg, wVar, wC, wOp, wcNil, wcCons, wcOwn, wCall, wCallOwn, slots, cellsOf, OwnArgs, putBack, g2I, g2IC, gLen, gAbs, gGcd, gInt1, gTupleOf, gListOf, gIx, gCatT, gCat, gEq, gNe, gIsN, gNotN, scD, seqD_t, seqD_l, seqD_f, isNonD, List.nodup_cons, List.mem_cons, List.not_mem_nil, or_false, not_false_eq_true, Nat.reduceEqDiff, L3.Keeps, ends, wipeD, List.replicate, List.cons_append, List.nil_append, List.append_nil, List.getElem?_cons_zero, List.getElem?_cons_succ, List.set_cons_zero, List.set_cons_succ, List.getD_cons_zero, List.getD_cons_succ, List.length_cons, List.length_nil, List.nodup_nil, Option.some.injEq, Cell.dat.injEq, Cell.own.injEq, Cont.lst.injEq, D.bl.injEq, D.int.injEq, D.str.injEq, D.tup.injEq, D.lst.injEq, Arg.d.injEq, List.cons.injEq, exists_and_left, exists_and_right, exists_eq_left', exists_eq_left, exists_eq_right, exists_eq_right', exists_eq, exists_eq', and_true, true_and, and_assoc, and_self, exists_const, reduceCtorEq]
      simp
      exact ⟨hu, hb i hf _ _⟩
    | true =>
      rw [h] at hf
      simp only [fs_is_kind, wRaise1, seqD_t, ok, sj, h, wListRg1, wListRg2, wRngDown, wZipK, gInL, gNotInT, wCatOwn, gIsB, gNotB, D.adr.injEq, Cont.pool.injEq, ixN31, ne_eq, List.map_cons, List.map_nil, wPoolOpen, wPoolClose, wPop0, wPopTo, wListOwn, wRemove, wRaise0, wRaise1, wAugOwn, wEnumL, wTru, wSlA, gCatA, gLtT, gLeT, wFrz, wChain3, wAttr, wMkF, wEnumT, wRevT, wDict0, wDict1, numD3, Nat.reduceAdd, atI0, atI1, atI2, atI3, atI4, ixN51, ixN52, ixN53, List.length_map, wNever, scal, V.int.injEq, V.str.injEq, V.bl.injEq, wSq, wNext, wBreak, wCont, wDrop, wRet, wRetN, wIfS, wAsg, wPar, wLstOwn, wAppend, wSetOwn, wIxOwn, wPeek, wRetOwn, wRetFr, wFor, wB, wNot, wAnd, wOr, wAndV, wOrV, wNotV, wIf, wChain, wNil, wCons, wCB, wTup, wLst, wNoPart, wPart, wSlT, wSlL, wSeq, wRng1, wRng2, wZip, wName, wNilT, wConsT, wTupT, wYes, wNeg, wVar, wC, wOp, wcNil, wcCons, wcOwn, wCall, wCallOwn, slots, cellsOf, OwnArgs, putBack, g2I, g2IC, gLen, gAbs, gGcd, gInt1, gTupleOf, gListOf, gIx, gCatT, gCat, gEq, gNe, gIsN, gNotN, scD, seqD_t, seqD_l, seqD_f, isNonD, List.nodup_cons, List.mem_cons, List.not_mem_nil, or_false, not_false_eq_true, Nat.reduceEqDiff, L3.Keeps, ends, wipeD, List.replicate, List.cons_append, List.nil_append, List.append_nil, List.getElem?_cons_zero, List.getElem?_cons_succ, List.set_cons_zero, List.set_cons_succ, List.getD_cons_zero, List.getD_cons_succ, List.length_cons, List.length_nil, List.nodup_nil, Option.some.injEq, Cell.dat.injEq, Cell.own.injEq, Cont.lst.injEq, D.bl.injEq, D.int.injEq, D.str.injEq, D.tup.injEq, D.lst.injEq, Arg.d.injEq, List.cons.injEq, exists_and_left, exists_and_right, exists_eq_left', exists_eq_left, exists_eq_right, exists_eq_right', exists_eq, exists_eq', and_true, true_and, and_assoc, and_self, exists_const, reduceCtorEq]
      simp
      exact ⟨hu, hf⟩
  · rintro τ2 ⟨⟨c3, c4, rfl⟩, hf⟩
    rw [List.length_mapIdx, List.drop_length] at hf
    exact hn hf _ _
theorem pure_Book__init__ {Z : CT} : PureD 3 2 (fs_Book__init__ K Z) (w_Book__init__ K Z) := by
  rintro cs q e - ⟨x, dx, ws, ps, rfl, h1, h2, hj, hb, hn⟩
  cases g1 : isSs ws with
  | false =>
    simp only [badBook, g1, if_true] at hb
    simp only [w_Book__init__, fs_is_sort_tuple, wRaise1, h1, g1, wListRg1, wListRg2, wRngDown, wZipK, gInL, gNotInT, wCatOwn, gIsB, gNotB, D.adr.injEq, Cont.pool.injEq, ixN31, ne_eq, List.map_cons, List.map_nil, wPoolOpen, wPoolClose, wPop0, wPopTo, wListOwn, wRemove, wRaise0, wRaise1, wAugOwn, wEnumL, wTru, wSlA, gCatA, gLtT, gLeT, wFrz, wChain3, wAttr, wMkF, wEnumT, wRevT, wDict0, wDict1, numD3, Nat.reduceAdd, atI0, atI1, atI2, atI3, atI4, ixN51, ixN52, ixN53, List.length_map, wNever, scal, V.int.injEq, V.str.injEq, V.bl.injEq, wSq, wNext, wBreak, wCont, wDrop, wRet, wRetN, wIfS, wAsg, wPar, wLstOwn, wAppend, wSetOwn, wIxOwn, wPeek, wRetOwn, wRetFr, wFor, wB, wNot, wAnd, wOr, wAndV, wOrV, wNotV, wIf, wChain, wNil, wCons, wCB, wTup, wLst, wNoPart, wPart, wSlT, wSlL, wSeq, wRng1, wRng2, wZip, wName, wNilT, wConsT, wTupT, wYes, wNeg, wVar, wC, wOp, wcNil, wcCons, wcOwn, wCall, wCallOwn, slots, cellsOf, OwnArgs, putBack, g2I, g2IC, gLen, gAbs, gGcd, gInt1, gTupleOf, gListOf, gIx, gCatT, gCat, gEq, gNe, gIsN, gNotN, scD, seqD_t, seqD_l, seqD_f, isNonD, List.nodup_cons, List.mem_cons, List.not_mem_nil, or_false, not_false_eq_true, Nat.reduceEqDiff, L3.Keeps, ends, wipeD, List.replicate, List.cons_append, List.nil_append, List.append_nil, List.getElem?_cons_zero, List.getElem?_cons_succ, List.set_cons_zero, List.set_cons_succ, List.getD_cons_zero, List.getD_cons_succ, List.length_cons, List.length_nil, List.nodup_nil, Option.some.injEq, Cell.dat.injEq, Cell.own.injEq, Cont.lst.injEq, D.bl.injEq, D.int.injEq, D.str.injEq, D.tup.injEq, D.lst.injEq, Arg.d.injEq, List.cons.injEq, exists_and_left, exists_and_right, exists_eq_left', exists_eq_left, exists_eq_right, exists_eq_right', exists_eq, exists_eq', and_true, true_and, and_assoc, and_self, exists_const, reduceCtorEq]
    simp
    exact hb _ rfl
  | true =>
    cases g2 : isTupOf 0 5 ps with
    | false =>
      simp only [badBook, g1, g2, if_true, Bool.true_eq_false, if_false] at hb
      simp only [w_Book__init__, fs_is_sort_tuple, fs_is_tuple_of, wRaise1, h1, h2, g1, g2, wListRg1, wListRg2, wRngDown, wZipK, gInL, gNotInT, wCatOwn, gIsB, gNotB, D.adr.injEq, Cont.pool.injEq, ixN31, ne_eq, List.map_cons, List.map_nil, wPoolOpen, wPoolClose, wPop0, wPopTo, wListOwn, wRemove, wRaise0, wRaise1, wAugOwn, wEnumL, wTru, wSlA, gCatA, gLtT, gLeT, wFrz, wChain3, wAttr, wMkF, wEnumT, wRevT, wDict0, wDict1, numD3, Nat.reduceAdd, atI0, atI1, atI2, atI3, atI4, ixN51, ixN52, ixN53, List.length_map, wNever, scal, V.int.injEq, V.str.injEq, V.bl.injEq, wSq, wNext, wBreak, wCont, wDrop, wRet, wRetN, wIfS, wAsg, wPar, wLstOwn, wAppend, wSetOwn, wIxOwn, wPeek, wRetOwn, wRetFr, wFor, wB, wNot, wAnd, wOr, wAndV, wOrV, wNotV, wIf, wChain, wNil, wCons, wCB, wTup, wLst, wNoPart, wPart, wSlT, wSlL, wSeq, wRng1, wRng2, wZip, wName, wNilT, wConsT, wTupT, wYes, wNeg, wVar, wC, wOp, wcNil, wcCons, wcOwn, wCall, wCallOwn, slots, cellsOf, OwnArgs, putBack, g2I, g2IC, gLen, gAbs, gGcd, gInt1, gTupleOf, gListOf, gIx, gCatT, gCat, gEq, gNe, gIsN, gNotN, scD, seqD_t, seqD_l, seqD_f, isNonD, List.nodup_cons, List.mem_cons, List.not_mem_nil, or_false, not_false_eq_true, Nat.reduceEqDiff, L3.Keeps, ends, wipeD, List.replicate, List.cons_append, List.nil_append, List.append_nil, List.getElem?_cons_zero, List.getElem?_cons_succ, List.set_cons_zero, List.set_cons_succ, List.getD_cons_zero, List.getD_cons_succ, List.length_cons, List.length_nil, List.nodup_nil, Option.some.injEq, Cell.dat.injEq, Cell.own.injEq, Cont.lst.injEq, D.bl.injEq, D.int.injEq, D.str.injEq, D.tup.injEq, D.lst.injEq, Arg.d.injEq, List.cons.injEq, exists_and_left, exists_and_right, exists_eq_left', exists_eq_left, exists_eq_right, exists_eq_right', exists_eq, exists_eq', and_true, true_and, and_assoc, and_self, exists_const, reduceCtorEq]
      simp
      exact hb _ rfl
    | true =>
      obtain ⟨us, rfl, u1, u4, us1, us2⟩ := ss_shape g1
      obtain ⟨ds, rfl⟩ : ∃ us, ps = .tup us := by cases ps <;> first | exact ⟨_, rfl⟩ | cases g2
      simp only [badBook, g1, g2, Bool.true_eq_false, if_false, Option.map_eq_some_iff, Option.map_eq_none_iff] at hb hn
      simp only [w_Book__init__, fs_is_sort_tuple, fs_is_tuple_of, wRaise1, h1, h2, g1, g2, wListRg1, wListRg2, wRngDown, wZipK, gInL, gNotInT, wCatOwn, gIsB, gNotB, D.adr.injEq, Cont.pool.injEq, ixN31, ne_eq, List.map_cons, List.map_nil, wPoolOpen, wPoolClose, wPop0, wPopTo, wListOwn, wRemove, wRaise0, wRaise1, wAugOwn, wEnumL, wTru, wSlA, gCatA, gLtT, gLeT, wFrz, wChain3, wAttr, wMkF, wEnumT, wRevT, wDict0, wDict1, numD3, Nat.reduceAdd, atI0, atI1, atI2, atI3, atI4, ixN51, ixN52, ixN53, List.length_map, wNever, scal, V.int.injEq, V.str.injEq, V.bl.injEq, wSq, wNext, wBreak, wCont, wDrop, wRet, wRetN, wIfS, wAsg, wPar, wLstOwn, wAppend, wSetOwn, wIxOwn, wPeek, wRetOwn, wRetFr, wFor, wB, wNot, wAnd, wOr, wAndV, wOrV, wNotV, wIf, wChain, wNil, wCons, wCB, wTup, wLst, wNoPart, wPart, wSlT, wSlL, wSeq, wRng1, wRng2, wZip, wName, wNilT, wConsT, wTupT, wYes, wNeg, wVar, wC, wOp, wcNil, wcCons, wcOwn, wCall, wCallOwn, slots, cellsOf, OwnArgs, putBack, g2I, g2IC, gLen, gAbs, gGcd, gInt1, gTupleOf, gListOf, gIx, gCatT, gCat, gEq, gNe, gIsN, gNotN, scD, seqD_t, seqD_l, seqD_f, isNonD, List.nodup_cons, List.mem_cons, List.not_mem_nil, or_false, not_false_eq_true, Nat.reduceEqDiff, L3.Keeps, ends, wipeD, List.replicate, List.cons_append, List.nil_append, List.append_nil, List.getElem?_cons_zero, List.getElem?_cons_succ, List.set_cons_zero, List.set_cons_succ, List.getD_cons_zero, List.getD_cons_succ, List.length_cons, List.length_nil, List.nodup_nil, Option.some.injEq, Cell.dat.injEq, Cell.own.injEq, Cont.lst.injEq, D.bl.injEq, D.int.injEq, D.str.injEq, D.tup.injEq, D.lst.injEq, Arg.d.injEq, List.cons.injEq, exists_and_left, exists_and_right, exists_eq_left', exists_eq_left, exists_eq_right, exists_eq_right', exists_eq, exists_eq', and_true, true_and, and_assoc, and_self, exists_const, reduceCtorEq]
      simp
      refine l1_Book__init___ok us1 h2 hj (fun i hi c3 c4 => ?_) fun h c3 c4 => ?_
      · simp only [wListRg1, wListRg2, wRngDown, wZipK, gInL, gNotInT, wCatOwn, gIsB, gNotB, D.adr.injEq, Cont.pool.injEq, ixN31, ne_eq, List.map_cons, List.map_nil, wPoolOpen, wPoolClose, wPop0, wPopTo, wListOwn, wRemove, wRaise0, wRaise1, wAugOwn, wEnumL, wTru, wSlA, gCatA, gLtT, gLeT, wFrz, wChain3, wAttr, wMkF, wEnumT, wRevT, wDict0, wDict1, numD3, Nat.reduceAdd, atI0, atI1, atI2, atI3, atI4, ixN51, ixN52, ixN53, List.length_map, wNever, scal, V.int.injEq, V.str.injEq, V.bl.injEq, wSq, wNext, wBreak, wCont, wDrop, wRet, wRetN, wIfS, wAsg, wPar, wLstOwn, wAppend, wSetOwn, wIxOwn, wPeek, wRetOwn, wRetFr, wFor, wB, wNot, wAnd, wOr, wAndV, wOrV, wNotV, wIf, wChain, wNil, wCons, wCB, wTup, wLst, wNoPart, wPart, wSlT, wSlL, wSeq, wRng1, wRng2, wZip, wName, wNilT, wConsT, wTupT, wYes, wNeg, wVar, wC, wOp, wcNil, wcCons, wcOwn, wCall, wCallOwn, slots, cellsOf, OwnArgs, putBack, g2I, g2IC, gLen, gAbs, gGcd, gInt1, gTupleOf, gListOf, gIx, gCatT, gCat, gEq, gNe, gIsN, gNotN, scD, seqD_t, seqD_l, seqD_f, isNonD, List.nodup_cons, List.mem_cons, List.not_mem_nil, or_false, not_false_eq_true, Nat.reduceEqDiff, L3.Keeps, ends, wipeD, List.replicate, List.cons_append, List.nil_append, List.append_nil, List.getElem?_cons_zero, List.getElem?_cons_succ, List.set_cons_zero, List.set_cons_succ, List.getD_cons_zero, List.getD_cons_succ, List.length_cons, List.length_nil, List.nodup_nil, Option.some.injEq, Cell.dat.injEq, Cell.own.injEq, Cont.lst.injEq, D.bl.injEq, D.int.injEq, D.str.injEq, D.tup.injEq, D.lst.injEq, Arg.d.injEq, List.cons.injEq, exists_and_left, exists_and_right, exists_eq_left', exists_eq_left, exists_eq_right, exists_eq_right', exists_eq, exists_eq', and_true, true_and, and_assoc, and_self, exists_const, reduceCtorEq]
        exact hb _ ⟨i, hi, rfl⟩
      · have e : putD (Str.ofString "kinds") (D.tup ds) [(Str.ofString "sorts", D.tup us)] = [(Str.ofString "sorts", D.tup us), (Str.ofString "kinds", D.tup ds)] := by
          unfold putD
          rw [if_neg (by decide +kernel)]
          rfl
        simp only [wFld, wListRg1, wListRg2, wRngDown, wZipK, gInL, gNotInT, wCatOwn, gIsB, gNotB, D.adr.injEq, Cont.pool.injEq, ixN31, ne_eq, List.map_cons, List.map_nil, wPoolOpen, wPoolClose, wPop0, wPopTo, wListOwn, wRemove, wRaise0, wRaise1, wAugOwn, wEnumL, wTru, wSlA, gCatA, gLtT, gLeT, wFrz, wChain3, wAttr, wMkF, wEnumT, wRevT, wDict0, wDict1, numD3, Nat.reduceAdd, atI0, atI1, atI2, atI3, atI4, ixN51, ixN52, ixN53, List.length_map, wNever, scal, V.int.injEq, V.str.injEq, V.bl.injEq, wSq, wNext, wBreak, wCont, wDrop, wRet, wRetN, wIfS, wAsg, wPar, wLstOwn, wAppend, wSetOwn, wIxOwn, wPeek, wRetOwn, wRetFr, wFor, wB, wNot, wAnd, wOr, wAndV, wOrV, wNotV, wIf, wChain, wNil, wCons, wCB, wTup, wLst, wNoPart, wPart, wSlT, wSlL, wSeq, wRng1, wRng2, wZip, wName, wNilT, wConsT, wTupT, wYes, wNeg, wVar, wC, wOp, wcNil, wcCons, wcOwn, wCall, wCallOwn, slots, cellsOf, OwnArgs, putBack, g2I, g2IC, gLen, gAbs, gGcd, gInt1, gTupleOf, gListOf, gIx, gCatT, gCat, gEq, gNe, gIsN, gNotN, scD, seqD_t, seqD_l, seqD_f, isNonD, List.nodup_cons, List.mem_cons, List.not_mem_nil, or_false, not_false_eq_true, Nat.reduceEqDiff, L3.Keeps, ends, wipeD, List.replicate, List.cons_append, List.nil_append, List.append_nil, List.getElem?_cons_zero, List.getElem?_cons_succ, List.set_cons_zero, List.set_cons_succ, List.getD_cons_zero, List.getD_cons_succ, List.length_cons, List.length_nil, List.nodup_nil, Option.some.injEq, Cell.dat.injEq, Cell.own.injEq, Cont.lst.injEq, D.bl.injEq, D.int.injEq, D.str.injEq, D.tup.injEq, D.lst.injEq, Arg.d.injEq, List.cons.injEq, exists_and_left, exists_and_right, exists_eq_left', exists_eq_left, exists_eq_right, exists_eq_right', exists_eq, exists_eq', and_true, true_and, and_assoc, and_self, exists_const, reduceCtorEq]
        simp
        exact ⟨dx, [], ⟨rfl, rfl⟩, (show (0 : Nat) < 1000 by decide), dx, [(Str.ofString "sorts", D.tup us)], ⟨rfl, rfl⟩, (show (1 : Nat) < 1000 by decide), by rw [e]; exact hn h⟩
theorem ok_Book__init__ (T : Txt K mg) : FnOk P w K mg base (L2.CX P w) 6 T.f_Book__init__ T.fd_Book__init__ ["self", "sorts", "kinds"] (spOf K 3 (fs_Book__init__ K T.Z)) := by
  refine def_ok T.F_Book__init__ sc_Book__init__ (wb := w_Book__init__ K T.Z) pure_Book__init__ ?_
  intro cdv A outer s H E hr tk
  exact ⟨_, (pss_cons (ps_if (pt_not (pt_val (pe_callS (ok_is_sort_tuple T) (hr.mono (by decide)) rfl T.g_is_sort_tuple T.k_is_sort_tuple T.b_is_sort_tuple (fun σ => passAt tk σ) (pa_cons (pv 1) pa_nil))))
        (pss_one (ps_raise rfl tk (pmk_oex T.ox_BadBook T.xi_BadBook T.xt_BadBook (okx_BadBook T) (hr.mono (by decide : 2 ≤ _)) T.bx_BadBook .nil passL rfl T.gx_BadBook (pa_cons pe_str pa_nil))))
        pss_nil)
      (pss_cons (ps_if (pt_not (pt_val (pe_callS (ok_is_tuple_of T) (hr.mono (by decide)) rfl T.g_is_tuple_of T.k_is_tuple_of T.b_is_tuple_of (fun σ => passAt tk σ) (pa_cons pe_int (pa_cons (pe_glob (v := .int 5) rfl T.c_MOST_KINDS ⟨_, rfl⟩) (pa_cons (pv 2) pa_nil))))))
        (pss_one (ps_raise rfl tk (pmk_oex T.ox_BadBook T.xi_BadBook T.xt_BadBook (okx_BadBook T) (hr.mono (by decide : 2 ≤ _)) T.bx_BadBook .nil passL rfl T.gx_BadBook (pa_cons pe_str pa_nil))))
        pss_nil)
      (pss_cons (ps_for (passes_of rfl) rfl (pi_enumT (by rfl) T.z_enumerate (pa_cons (pv 2) pa_nil)) (pg_tup (by rfl) (pgs_cons (pg_name (i := 3) sc_Book__init__.nd rfl (by first | exact Or.inl rfl | exact Or.inr rfl)) (pgs_cons (pg_name (i := 4) sc_Book__init__.nd rfl (by first | exact Or.inl rfl | exact Or.inr rfl)) pgs_nil)))
        (pss_one (ps_if (pt_not (pt_val (pe_callS (ok_is_kind T) (hr.mono (by decide)) rfl T.g_is_kind T.k_is_kind T.b_is_kind (fun σ => passAt tk σ) (pa_cons (pv 1) (pa_cons (pv 4) pa_nil)))))
        (pss_one (ps_raise rfl tk (pmk_oex T.ox_BadBook T.xi_BadBook T.xt_BadBook (okx_BadBook T) (hr.mono (by decide : 2 ≤ _)) T.bx_BadBook .nil passL rfl T.gx_BadBook (pa_cons (pv 3) pa_nil))))
        pss_nil)))
      (pss_cons (ps_fld (pv 0) (pv 1) (by rfl))
      (pss_one (ps_fld (pv 0) (pv 2) (by rfl))))))),
    (ds_seq (ds_if (dt_not (dt_B (de_call (n := 1) (fs := fs_is_sort_tuple K) (dac_cons (de_var 1) dac_nil)))) (ds_raise1 (C := T.Z.C_BadBook) (f := "part") de_str) ds_nil)
      (ds_seq (ds_if (dt_not (dt_B (de_call (n := 3) (fs := fs_is_tuple_of K) (dac_cons de_int (dac_cons de_int (dac_cons (de_var 2) dac_nil)))))) (ds_raise1 (C := T.Z.C_BadBook) (f := "part") de_str) ds_nil)
      (ds_seq (ds_for (wI := (wEnumT (wCons (wVar 2) wNil))) (wg := (wTupT 2 (wConsT (wName 3) (wConsT (wName 4) wNilT)))) (wb := (wIfS (wNot (wB (wCall 2 (fs_is_kind K) (wcCons (wVar 1) (wcCons (wVar 4) wcNil))))) (wRaise1 T.Z.C_BadBook "part" (wVar 3)) wNext)) (di_enumT (da_cons (de_var 2) da_nil)) (dg_tup (n := 2) (dgs_cons (dg_name 3) (dgs_cons (dg_name 4) dgs_nil))) (ds_if (dt_not (dt_B (de_call (n := 2) (fs := fs_is_kind K) (dac_cons (de_var 1) (dac_cons (de_var 4) dac_nil))))) (ds_raise1 (C := T.Z.C_BadBook) (f := "part") (de_var 3)) ds_nil))
      (ds_seq (ds_fld (i := 0) T.it_Book.cl T.na_Book_sorts (de_var 1))
      (ds_fld (i := 0) T.it_Book.cl T.na_Book_kinds (de_var 2))))))⟩
abbrev s_Book__eq__ : Stmt := inClass (topS 34) 1
theorem sc_Book__eq__ : FnScope ["self", "other"] ["self", "other"] (defScope s_Book__eq__) := ⟨rfl, rfl, rfl, by decide +kernel, rfl, by decide +kernel, by decide +kernel⟩
def w_Book__eq__ (K : PySem.W.Frag) (Z : CT) : SW := (wRet (wAndV (wIsiC Z.C_Book K (wVar 1)) (wAndV (wOp gEqD (wAttr Z.C_Book "sorts" (wVar 0)) (wAttr Z.C_Book "sorts" (wVar 1))) (wOp gEqD (wAttr Z.C_Book "kinds" (wVar 0)) (wAttr Z.C_Book "kinds" (wVar 1))))))
def fs_Book__eq__ (K : PySem.W.Frag) (Z : CT) : FS := fun cs q _ => ∃ us ds y, cs = [.dat (.ins Z.C_Book [("sorts", us), ("kinds", ds)]), .dat y] ∧ KitF K Z.C_Book Z.C_Web ∧ PlnD 5 us ∧ PlnD 5 ds ∧ ((BltD y ∧ q (.bl false) cs) ∨ (∃ gs, y = .ins Z.C_Web gs ∧ q (.bl false) cs) ∨
  ∃ us' ds', y = .ins Z.C_Book [("sorts", us'), ("kinds", ds')] ∧ PlnD 5 us' ∧ PlnD 5 ds' ∧ q (.bl (eqB us us' && eqB ds ds')) cs)
theorem pure_Book__eq__ {Z : CT} : PureD 2 0 (fs_Book__eq__ K Z) (w_Book__eq__ K Z) := by
  rintro cs q e - ⟨us, ds, y, rfl, hk, h1, h2, (⟨hy, hq⟩ | ⟨gs, rfl, hq⟩ | ⟨us', ds', rfl, h3, h4, hq⟩)⟩
  · obtain ⟨nt, T, hT, et⟩ := blt_ty hy
    simp only [w_Book__eq__, wIsiC, wListRg1, wListRg2, wRngDown, wZipK, gInL, gNotInT, wCatOwn, gIsB, gNotB, D.adr.injEq, Cont.pool.injEq, ixN31, ne_eq, List.map_cons, List.map_nil, wPoolOpen, wPoolClose, wPop0, wPopTo, wListOwn, wRemove, wRaise0, wRaise1, wAugOwn, wEnumL, wTru, wSlA, gCatA, gLtT, gLeT, wFrz, wChain3, wAttr, wMkF, wEnumT, wRevT, wDict0, wDict1, numD3, Nat.reduceAdd, atI0, atI1, atI2, atI3, atI4, ixN51, ixN52, ixN53, List.length_map, wNever, scal, V.int.injEq, V.str.injEq, V.bl.injEq, wSq, wNext, wBreak, wCont, wDrop, wRet, wRetN, wIfS, wAsg, wPar, wLstOwn, wAppend, wSetOwn, wIxOwn, wPeek, wRetOwn, wRetFr, wFor, wB, wNot, wAnd, wOr, wAndV, wOrV, wNotV, wIf, wChain, wNil, wCons, wCB, wTup, wLst, wNoPart, wPart, wSlT, wSlL, wSeq, wRng1, wRng2, wZip, wName, wNilT, wConsT, wTupT, wYes, wNeg, wVar, wC, wOp, wcNil, wcCons, wcOwn, wCall, wCallOwn, slots, cellsOf, OwnArgs, putBack, g2I, g2IC, gLen, gAbs, gGcd, gInt1, gTupleOf, gListOf, gIx, gCatT, gCat, gEq, gNe, gIsN, gNotN, scD, seqD_t, seqD_l, seqD_f, isNonD, List.nodup_cons, List.mem_cons, List.not_mem_nil, or_false, not_false_eq_true, Nat.reduceEqDiff, L3.Keeps, ends, wipeD, List.replicate, List.cons_append, List.nil_append, List.append_nil, List.getElem?_cons_zero, List.getElem?_cons_succ, List.set_cons_zero, List.set_cons_succ, List.getD_cons_zero, List.getD_cons_succ, List.length_cons, List.length_nil, List.nodup_nil, Option.some.injEq, Cell.dat.injEq, Cell.own.injEq, Cont.lst.injEq, D.bl.injEq, D.int.injEq, D.str.injEq, D.tup.injEq, D.lst.injEq, Arg.d.injEq, List.cons.injEq, exists_and_left, exists_and_right, exists_eq_left', exists_eq_left, exists_eq_right, exists_eq_right', exists_eq, exists_eq', and_true, true_and, and_assoc, and_self, exists_const, reduceCtorEq]
    refine ⟨false, .inl ⟨nt, by rw [et]; exact hk.kb T hT⟩, ?_⟩
    exact ⟨false, rfl, fun z => (nomatch z), fun _ => hq⟩
  · simp only [w_Book__eq__, wIsiC, wListRg1, wListRg2, wRngDown, wZipK, gInL, gNotInT, wCatOwn, gIsB, gNotB, D.adr.injEq, Cont.pool.injEq, ixN31, ne_eq, List.map_cons, List.map_nil, wPoolOpen, wPoolClose, wPop0, wPopTo, wListOwn, wRemove, wRaise0, wRaise1, wAugOwn, wEnumL, wTru, wSlA, gCatA, gLtT, gLeT, wFrz, wChain3, wAttr, wMkF, wEnumT, wRevT, wDict0, wDict1, numD3, Nat.reduceAdd, atI0, atI1, atI2, atI3, atI4, ixN51, ixN52, ixN53, List.length_map, wNever, scal, V.int.injEq, V.str.injEq, V.bl.injEq, wSq, wNext, wBreak, wCont, wDrop, wRet, wRetN, wIfS, wAsg, wPar, wLstOwn, wAppend, wSetOwn, wIxOwn, wPeek, wRetOwn, wRetFr, wFor, wB, wNot, wAnd, wOr, wAndV, wOrV, wNotV, wIf, wChain, wNil, wCons, wCB, wTup, wLst, wNoPart, wPart, wSlT, wSlL, wSeq, wRng1, wRng2, wZip, wName, wNilT, wConsT, wTupT, wYes, wNeg, wVar, wC, wOp, wcNil, wcCons, wcOwn, wCall, wCallOwn, slots, cellsOf, OwnArgs, putBack, g2I, g2IC, gLen, gAbs, gGcd, gInt1, gTupleOf, gListOf, gIx, gCatT, gCat, gEq, gNe, gIsN, gNotN, scD, seqD_t, seqD_l, seqD_f, isNonD, List.nodup_cons, List.mem_cons, List.not_mem_nil, or_false, not_false_eq_true, Nat.reduceEqDiff, L3.Keeps, ends, wipeD, List.replicate, List.cons_append, List.nil_append, List.append_nil, List.getElem?_cons_zero, List.getElem?_cons_succ, List.set_cons_zero, List.set_cons_succ, List.getD_cons_zero, List.getD_cons_succ, List.length_cons, List.length_nil, List.nodup_nil, Option.some.injEq, Cell.dat.injEq, Cell.own.injEq, Cont.lst.injEq, D.bl.injEq, D.int.injEq, D.str.injEq, D.tup.injEq, D.lst.injEq, Arg.d.injEq, List.cons.injEq, exists_and_left, exists_and_right, exists_eq_left', exists_eq_left, exists_eq_right, exists_eq_right', exists_eq, exists_eq', and_true, true_and, and_assoc, and_self, exists_const, reduceCtorEq]
    refine ⟨false, .inr ⟨_, _, rfl, hk.ito, hk.ko⟩, ?_⟩
    exact ⟨false, rfl, fun z => (nomatch z), fun _ => hq⟩
  · simp only [w_Book__eq__, wIsiC, wListRg1, wListRg2, wRngDown, wZipK, gInL, gNotInT, wCatOwn, gIsB, gNotB, D.adr.injEq, Cont.pool.injEq, ixN31, ne_eq, List.map_cons, List.map_nil, wPoolOpen, wPoolClose, wPop0, wPopTo, wListOwn, wRemove, wRaise0, wRaise1, wAugOwn, wEnumL, wTru, wSlA, gCatA, gLtT, gLeT, wFrz, wChain3, wAttr, wMkF, wEnumT, wRevT, wDict0, wDict1, numD3, Nat.reduceAdd, atI0, atI1, atI2, atI3, atI4, ixN51, ixN52, ixN53, List.length_map, wNever, scal, V.int.injEq, V.str.injEq, V.bl.injEq, wSq, wNext, wBreak, wCont, wDrop, wRet, wRetN, wIfS, wAsg, wPar, wLstOwn, wAppend, wSetOwn, wIxOwn, wPeek, wRetOwn, wRetFr, wFor, wB, wNot, wAnd, wOr, wAndV, wOrV, wNotV, wIf, wChain, wNil, wCons, wCB, wTup, wLst, wNoPart, wPart, wSlT, wSlL, wSeq, wRng1, wRng2, wZip, wName, wNilT, wConsT, wTupT, wYes, wNeg, wVar, wC, wOp, wcNil, wcCons, wcOwn, wCall, wCallOwn, slots, cellsOf, OwnArgs, putBack, g2I, g2IC, gLen, gAbs, gGcd, gInt1, gTupleOf, gListOf, gIx, gCatT, gCat, gEq, gNe, gIsN, gNotN, scD, seqD_t, seqD_l, seqD_f, isNonD, List.nodup_cons, List.mem_cons, List.not_mem_nil, or_false, not_false_eq_true, Nat.reduceEqDiff, L3.Keeps, ends, wipeD, List.replicate, List.cons_append, List.nil_append, List.append_nil, List.getElem?_cons_zero, List.getElem?_cons_succ, List.set_cons_zero, List.set_cons_succ, List.getD_cons_zero, List.getD_cons_succ, List.length_cons, List.length_nil, List.nodup_nil, Option.some.injEq, Cell.dat.injEq, Cell.own.injEq, Cont.lst.injEq, D.bl.injEq, D.int.injEq, D.str.injEq, D.tup.injEq, D.lst.injEq, Arg.d.injEq, List.cons.injEq, exists_and_left, exists_and_right, exists_eq_left', exists_eq_left, exists_eq_right, exists_eq_right', exists_eq, exists_eq', and_true, true_and, and_assoc, and_self, exists_const, reduceCtorEq]
    refine ⟨true, .inr ⟨_, _, rfl, hk.it, hk.ks⟩, ?_⟩
    refine ⟨true, rfl, fun _ => ⟨_, rfl, us, rfl, _, rfl, us', rfl, gEqD_of (n := 5) (m := 5) (pln_sh h1) (pln_sh h3) (by decide) (by decide) ⟨_, rfl, fun z => ⟨_, rfl, ds, rfl, _, rfl, ds', rfl, gEqD_of (n := 5) (m := 5) (pln_sh h2) (pln_sh h4) (by decide) (by decide) ?_⟩, fun z => ?_⟩⟩, fun z => (nomatch z)⟩
    · rw [z, Bool.true_and] at hq
      exact hq
    · rw [z, Bool.false_and] at hq
      exact hq
theorem ok_Book__eq__ (T : Txt K mg) : FnOk P w K mg base (L2.CX P w) 1 T.f_Book__eq__ T.fd_Book__eq__ ["self", "other"] (spOf K 2 (fs_Book__eq__ K T.Z)) := by
  refine def_ok T.F_Book__eq__ sc_Book__eq__ (wb := w_Book__eq__ K T.Z) pure_Book__eq__ ?_
  intro cdv A outer s H E hr tk
  exact ⟨_, (pss_one (ps_ret (pe_and (pe_callB call_isi (by rfl) T.z_isinstance (by decide +kernel) (pa_cons (pv 1) (pa_cons (pe_glob (v := .ref _) rfl T.gc_Book rfl) pa_nil))) (pe_and (pe_cmpR (op_eqD hr.units) (pe_fld (pv 0) rfl) (pe_fld (pv 1) rfl) (nomark _)) (pe_one (pe_cmpR (op_eqD hr.units) (pe_fld (pv 0) rfl) (pe_fld (pv 1) rfl) (nomark _))))))),
    (ds_ret (de_and (de_isiC (de_var 1)) (de_and (de_op o_eqD (de_fld T.it_Book.cl T.na_Book_sorts (de_var 0)) (de_fld T.it_Book.cl T.na_Book_sorts (de_var 1))) (de_op o_eqD (de_fld T.it_Book.cl T.na_Book_kinds (de_var 0)) (de_fld T.it_Book.cl T.na_Book_kinds (de_var 1))))))⟩
abbrev s__law_source : Stmt := topS 36
theorem sc__law_source : FnScope ["script", "folded", "cell"] ["script"] (defScope s__law_source) := ⟨rfl, rfl, rfl, by decide +kernel, rfl, by decide +kernel, by decide +kernel⟩
def l1__law_source (K : PySem.W.Frag) : SW := wFor (wSeq (wVar 0)) (wName 2) (wAsg (wOp gModI (wCB gInt1 (wCons (wOp gAddI (wOp gMulA (wVar 1) (wC (.int 69621))) (wVar 2)) wNil)) (wC (.int 2147483647))) (wName 1))
def w__law_source (K : PySem.W.Frag) : SW := (wSq (wAsg (wC (.int 17)) (wName 1))
  (wSq (l1__law_source K)
  (wRetFr (wCons (wCB gListOf (wCons (wVar 0) wNil)) (wCons (wC (.int 0)) (wCons (wC (.int 0)) (wCons (wC (.int 0)) (wCons (wVar 1) wNil))))))))
def fs__law_source (K : PySem.W.Frag) : FSF := fun cs q _ => ∃ ns : List Int, cs = [.dat (.fl (ns.map D.int))] ∧ ns.length ≤ 1000 ∧ ∀ f : Int, q (.lst [.lst (ns.map D.int), .int 0, .int 0, .int 0, .int f]) cs
def InvS (ns : List Int) (_ : Nat) (τ : List Cell) : Prop := ∃ (f : Int) (c : Cell), τ = [.dat (.fl (ns.map D.int)), .dat (.int f), c] ∧ 0 ≤ f ∧ f < 2147483647
theorem l1__law_source_ok {ns : List Int} {c : Cell} {E : EndsD} (hn : ∀ (f : Int) c, E.nx [.dat (.fl (ns.map D.int)), .dat (.int f), c]) : l1__law_source K E [.dat (.fl (ns.map D.int)), .dat (.int 17), c] := by
  unfold l1__law_source wFor
  refine ⟨_, rfl, _, rfl, InvS ns, ⟨17, c, rfl, by decide, by decide⟩, ?_, ?_⟩
  · rintro i d τ2 hi ⟨f, c, rfl, h1, h2⟩
    rw [List.getElem?_map] at hi
    obtain ⟨n, _, rfl⟩ := Option.map_eq_some_iff.mp hi
    simp only [wListRg1, wListRg2, wRngDown, wZipK, gInL, gNotInT, wCatOwn, gIsB, gNotB, D.adr.injEq, Cont.pool.injEq, ixN31, ne_eq, List.map_cons, List.map_nil, wPoolOpen, wPoolClose, wPop0, wPopTo, wListOwn, wRemove, wRaise0, wRaise1, wAugOwn, wEnumL, wTru, wSlA, gCatA, gLtT, gLeT, wFrz, wChain3, wAttr, wMkF, wEnumT, wRevT, wDict0, wDict1, numD3, Nat.reduceAdd, atI0, atI1, atI2, atI3, atI4, ixN51, ixN52, ixN53, List.length_map, wNever, scal, V.int.injEq, V.str.injEq, V.bl.injEq, wSq, wNext, wBreak, wCont, wDrop, wRet, wRetN, wIfS, wAsg, wPar, wLstOwn, wAppend, wSetOwn, wIxOwn, wPeek, wRetOwn, wRetFr, wFor, wB, wNot, wAnd, wOr, wAndV, wOrV, wNotV, wIf, wChain, wNil, wCons, wCB, wTup, wLst, wNoPart, wPart, wSlT, wSlL, wSeq, wRng1, wRng2, wZip, wName, wNilT, wConsT, wTupT, wYes, wNeg, wVar, wC, wOp, wcNil, wcCons, wcOwn, wCall, wCallOwn, slots, cellsOf, OwnArgs, putBack, g2I, g2IC, gLen, gAbs, gGcd, gInt1, gTupleOf, gListOf, gIx, gCatT, gCat, gEq, gNe, gIsN, gNotN, scD, seqD_t, seqD_l, seqD_f, isNonD, List.nodup_cons, List.mem_cons, List.not_mem_nil, or_false, not_false_eq_true, Nat.reduceEqDiff, L3.Keeps, ends, wipeD, List.replicate, List.cons_append, List.nil_append, List.append_nil, List.getElem?_cons_zero, List.getElem?_cons_succ, List.set_cons_zero, List.set_cons_succ, List.getD_cons_zero, List.getD_cons_succ, List.length_cons, List.length_nil, List.nodup_nil, Option.some.injEq, Cell.dat.injEq, Cell.own.injEq, Cont.lst.injEq, D.bl.injEq, D.int.injEq, D.str.injEq, D.tup.injEq, D.lst.injEq, Arg.d.injEq, List.cons.injEq, exists_and_left, exists_and_right, exists_eq_left', exists_eq_left, exists_eq_right, exists_eq_right', exists_eq, exists_eq', and_true, true_and, and_assoc, and_self, exists_const, reduceCtorEq]
    refine ⟨cmul_r (by decide) (by decide), by decide, _, _, rfl, ?_, ?_⟩ <;> omega
  · rintro τ2 ⟨f, c, rfl, _, _⟩
    exact hn f c
theorem pure__law_source : PureF 1 2 (fs__law_source K) (w__law_source K) := by
  rintro cs q e - ⟨ns, rfl, hl, hq⟩
  simp only [w__law_source, wListRg1, wListRg2, wRngDown, wZipK, gInL, gNotInT, wCatOwn, gIsB, gNotB, D.adr.injEq, Cont.pool.injEq, ixN31, ne_eq, List.map_cons, List.map_nil, wPoolOpen, wPoolClose, wPop0, wPopTo, wListOwn, wRemove, wRaise0, wRaise1, wAugOwn, wEnumL, wTru, wSlA, gCatA, gLtT, gLeT, wFrz, wChain3, wAttr, wMkF, wEnumT, wRevT, wDict0, wDict1, numD3, Nat.reduceAdd, atI0, atI1, atI2, atI3, atI4, ixN51, ixN52, ixN53, List.length_map, wNever, scal, V.int.injEq, V.str.injEq, V.bl.injEq, wSq, wNext, wBreak, wCont, wDrop, wRet, wRetN, wIfS, wAsg, wPar, wLstOwn, wAppend, wSetOwn, wIxOwn, wPeek, wRetOwn, wRetFr, wFor, wB, wNot, wAnd, wOr, wAndV, wOrV, wNotV, wIf, wChain, wNil, wCons, wCB, wTup, wLst, wNoPart, wPart, wSlT, wSlL, wSeq, wRng1, wRng2, wZip, wName, wNilT, wConsT, wTupT, wYes, wNeg, wVar, wC, wOp, wcNil, wcCons, wcOwn, wCall, wCallOwn, slots, cellsOf, OwnArgs, putBack, g2I, g2IC, gLen, gAbs, gGcd, gInt1, gTupleOf, gListOf, gIx, gCatT, gCat, gEq, gNe, gIsN, gNotN, scD, seqD_t, seqD_l, seqD_f, isNonD, List.nodup_cons, List.mem_cons, List.not_mem_nil, or_false, not_false_eq_true, Nat.reduceEqDiff, L3.Keeps, ends, wipeD, List.replicate, List.cons_append, List.nil_append, List.append_nil, List.getElem?_cons_zero, List.getElem?_cons_succ, List.set_cons_zero, List.set_cons_succ, List.getD_cons_zero, List.getD_cons_succ, List.length_cons, List.length_nil, List.nodup_nil, Option.some.injEq, Cell.dat.injEq, Cell.own.injEq, Cont.lst.injEq, D.bl.injEq, D.int.injEq, D.str.injEq, D.tup.injEq, D.lst.injEq, Arg.d.injEq, List.cons.injEq, exists_and_left, exists_and_right, exists_eq_left', exists_eq_left, exists_eq_right, exists_eq_right', exists_eq, exists_eq', and_true, true_and, and_assoc, and_self, exists_const, reduceCtorEq]
  refine l1__law_source_ok fun f c => ?_
  simp only [seqD_f, wListRg1, wListRg2, wRngDown, wZipK, gInL, gNotInT, wCatOwn, gIsB, gNotB, D.adr.injEq, Cont.pool.injEq, ixN31, ne_eq, List.map_cons, List.map_nil, wPoolOpen, wPoolClose, wPop0, wPopTo, wListOwn, wRemove, wRaise0, wRaise1, wAugOwn, wEnumL, wTru, wSlA, gCatA, gLtT, gLeT, wFrz, wChain3, wAttr, wMkF, wEnumT, wRevT, wDict0, wDict1, numD3, Nat.reduceAdd, atI0, atI1, atI2, atI3, atI4, ixN51, ixN52, ixN53, List.length_map, wNever, scal, V.int.injEq, V.str.injEq, V.bl.injEq, wSq, wNext, wBreak, wCont, wDrop, wRet, wRetN, wIfS, wAsg, wPar, wLstOwn, wAppend, wSetOwn, wIxOwn, wPeek, wRetOwn, wRetFr, wFor, wB, wNot, wAnd, wOr, wAndV, wOrV, wNotV, wIf, wChain, wNil, wCons, wCB, wTup, wLst, wNoPart, wPart, wSlT, wSlL, wSeq, wRng1, wRng2, wZip, wName, wNilT, wConsT, wTupT, wYes, wNeg, wVar, wC, wOp, wcNil, wcCons, wcOwn, wCall, wCallOwn, slots, cellsOf, OwnArgs, putBack, g2I, g2IC, gLen, gAbs, gGcd, gInt1, gTupleOf, gListOf, gIx, gCatT, gCat, gEq, gNe, gIsN, gNotN, scD, seqD_t, seqD_l, seqD_f, isNonD, List.nodup_cons, List.mem_cons, List.not_mem_nil, or_false, not_false_eq_true, Nat.reduceEqDiff, L3.Keeps, ends, wipeD, List.replicate, List.cons_append, List.nil_append, List.append_nil, List.getElem?_cons_zero, List.getElem?_cons_succ, List.set_cons_zero, List.set_cons_succ, List.getD_cons_zero, List.getD_cons_succ, List.length_cons, List.length_nil, List.nodup_nil, Option.some.injEq, Cell.dat.injEq, Cell.own.injEq, Cont.lst.injEq, D.bl.injEq, D.int.injEq, D.str.injEq, D.tup.injEq, D.lst.injEq, Arg.d.injEq, List.cons.injEq, exists_and_left, exists_and_right, exists_eq_left', exists_eq_left, exists_eq_right, exists_eq_right', exists_eq, exists_eq', and_true, true_and, and_assoc, and_self, exists_const, reduceCtorEq]
  exact ⟨by decide, hq f⟩
theorem ok__law_source (T : Txt K mg) : FnOk P w K mg base (L2.CX P w) 1 T.f__law_source T.fd__law_source ["script"] (spFr K 1 (fs__law_source K)) := by
  refine def_okFr T.F__law_source sc__law_source (wb := w__law_source K) pure__law_source ?_
  intro cdv A outer s H E hr tk
  exact ⟨_, (pss_cons (ps_set (i := 1) sc__law_source.nd rfl (by first | exact Or.inl rfl | exact Or.inr rfl) pe_int)
      (pss_cons (ps_for (passes_of rfl) rfl (pi_seq (pv 0)) (pg_name (i := 2) sc__law_source.nd rfl (by first | exact Or.inl rfl | exact Or.inr rfl))
        (pss_one (ps_set (i := 1) sc__law_source.nd rfl (by first | exact Or.inl rfl | exact Or.inr rfl) (pe_op op_mod (pe_callTy call_int1 (by rfl) T.z_int (by decide +kernel) (pa_cons (pe_op op_add (pe_op op_mulA (pv 1) pe_int) (pv 2)) pa_nil)) pe_int))))
      (pss_one (ps_ret (pe_lst (pa_cons (pe_callTy call_list_of (by rfl) T.z_list (by decide +kernel) (pa_cons (pv 0) pa_nil)) (pa_cons pe_int (pa_cons pe_int (pa_cons pe_int (pa_cons (pv 1) pa_nil)))))))))),
    (ds_seq (ds_asg de_int (dg_name 1))
      (ds_seq (ds_for (wI := (wSeq (wVar 0))) (wg := (wName 2)) (wb := (wAsg (wOp gModI (wCB gInt1 (wCons (wOp gAddI (wOp gMulA (wVar 1) (wC (.int 69621))) (wVar 2)) wNil)) (wC (.int 2147483647))) (wName 1))) (di_seq (de_var 0)) (dg_name 2) (ds_asg (de_op o_mod (de_cb o_int1 (da_cons (de_op o_add (de_op o_mulA (de_var 1) de_int) (de_var 2)) da_nil)) de_int) (dg_name 1)))
      (ds_retFr (da_cons (de_cb o_listOf (da_cons (de_var 0) da_nil)) (da_cons de_int (da_cons de_int (da_cons de_int (da_cons (de_var 1) da_nil))))))))⟩
abbrev s__law_mixed : Stmt := topS 37
theorem sc__law_mixed : FnScope ["number", "turn", "mixed"] ["number", "turn"] (defScope s__law_mixed) := ⟨rfl, rfl, rfl, by decide +kernel, rfl, by decide +kernel, by decide +kernel⟩
def w__law_mixed (K : PySem.W.Frag) : SW := (wSq (wAsg (wOp gModI (wCB gInt1 (wCons (wOp gMulA (wOp gModI (wCB gInt1 (wCons (wOp gAddI (wOp gAddI (wVar 0) (wOp gMulA (wC (.int 7919)) (wVar 1))) (wC (.int 1))) wNil)) (wC (.int 2147483647))) (wC (.int 48271))) wNil)) (wC (.int 2147483647))) (wName 2))
  (wSq (wAsg (wOp gModI (wCB gInt1 (wCons (wOp gMulA (wVar 2) (wOp gAddI (wOp gDivW (wVar 2) (wC (.int 1009))) (wC (.int 69621)))) wNil)) (wC (.int 2147483647))) (wName 2))
  (wRet (wOp gModI (wCB gInt1 (wCons (wOp gMulA (wVar 2) (wOp gAddI (wOp gDivW (wVar 2) (wC (.int 2003))) (wC (.int 40692)))) wNil)) (wC (.int 2147483399))))))
def fs__law_mixed (K : PySem.W.Frag) : FS := fun cs q _ => ∃ (n t : Int), cs = [.dat (.int n), .dat (.int t)] ∧ ∀ r : Int, 0 ≤ r → r < 2147483399 → q (.int r) cs
theorem divw {i j : Int} (h : 0 < j) (h2 : j < 2 ^ 30) : CDivW i j := wide_div h (b := 30) (by omega) (by decide) (by decide)
theorem pure__law_mixed : PureD 2 1 (fs__law_mixed K) (w__law_mixed K) := by
  rintro cs q e - ⟨n, t, rfl, hq⟩
  simp only [w__law_mixed, wListRg1, wListRg2, wRngDown, wZipK, gInL, gNotInT, wCatOwn, gIsB, gNotB, D.adr.injEq, Cont.pool.injEq, ixN31, ne_eq, List.map_cons, List.map_nil, wPoolOpen, wPoolClose, wPop0, wPopTo, wListOwn, wRemove, wRaise0, wRaise1, wAugOwn, wEnumL, wTru, wSlA, gCatA, gLtT, gLeT, wFrz, wChain3, wAttr, wMkF, wEnumT, wRevT, wDict0, wDict1, numD3, Nat.reduceAdd, atI0, atI1, atI2, atI3, atI4, ixN51, ixN52, ixN53, List.length_map, wNever, scal, V.int.injEq, V.str.injEq, V.bl.injEq, wSq, wNext, wBreak, wCont, wDrop, wRet, wRetN, wIfS, wAsg, wPar, wLstOwn, wAppend, wSetOwn, wIxOwn, wPeek, wRetOwn, wRetFr, wFor, wB, wNot, wAnd, wOr, wAndV, wOrV, wNotV, wIf, wChain, wNil, wCons, wCB, wTup, wLst, wNoPart, wPart, wSlT, wSlL, wSeq, wRng1, wRng2, wZip, wName, wNilT, wConsT, wTupT, wYes, wNeg, wVar, wC, wOp, wcNil, wcCons, wcOwn, wCall, wCallOwn, slots, cellsOf, OwnArgs, putBack, g2I, g2IC, gLen, gAbs, gGcd, gInt1, gTupleOf, gListOf, gIx, gCatT, gCat, gEq, gNe, gIsN, gNotN, scD, seqD_t, seqD_l, seqD_f, isNonD, List.nodup_cons, List.mem_cons, List.not_mem_nil, or_false, not_false_eq_true, Nat.reduceEqDiff, L3.Keeps, ends, wipeD, List.replicate, List.cons_append, List.nil_append, List.append_nil, List.getElem?_cons_zero, List.getElem?_cons_succ, List.set_cons_zero, List.set_cons_succ, List.getD_cons_zero, List.getD_cons_succ, List.length_cons, List.length_nil, List.nodup_nil, Option.some.injEq, Cell.dat.injEq, Cell.own.injEq, Cont.lst.injEq, D.bl.injEq, D.int.injEq, D.str.injEq, D.tup.injEq, D.lst.injEq, Arg.d.injEq, List.cons.injEq, exists_and_left, exists_and_right, exists_eq_left', exists_eq_left, exists_eq_right, exists_eq_right', exists_eq, exists_eq', and_true, true_and, and_assoc, and_self, exists_const, reduceCtorEq]
  refine ⟨cmul_l (by decide) (by decide), by decide, cmul_r (by decide) (by decide), by decide, divw (by decide) (by decide), cmul_l ?_ ?_, by decide, divw (by decide) (by decide), cmul_l ?_ ?_, by decide, hq _ ?_ ?_⟩ <;> omega
theorem ok__law_mixed (T : Txt K mg) : FnOk P w K mg base (L2.CX P w) 1 T.f__law_mixed T.fd__law_mixed ["number", "turn"] (spOf K 2 (fs__law_mixed K)) := by
  refine def_ok T.F__law_mixed sc__law_mixed (wb := w__law_mixed K) pure__law_mixed ?_
  intro cdv A outer s H E hr tk
  exact ⟨_, (pss_cons (ps_set (i := 2) sc__law_mixed.nd rfl (by first | exact Or.inl rfl | exact Or.inr rfl) (pe_op op_mod (pe_callTy call_int1 (by rfl) T.z_int (by decide +kernel) (pa_cons (pe_op op_mulA (pe_op op_mod (pe_callTy call_int1 (by rfl) T.z_int (by decide +kernel) (pa_cons (pe_op op_add (pe_op op_add (pv 0) (pe_op op_mulA pe_int (pv 1))) pe_int) pa_nil)) pe_int) pe_int) pa_nil)) pe_int))
      (pss_cons (ps_set (i := 2) sc__law_mixed.nd rfl (by first | exact Or.inl rfl | exact Or.inr rfl) (pe_op op_mod (pe_callTy call_int1 (by rfl) T.z_int (by decide +kernel) (pa_cons (pe_op op_mulA (pv 2) (pe_op op_add (pe_op op_fdivW (pv 2) pe_int) pe_int)) pa_nil)) pe_int))
      (pss_one (ps_ret (pe_op op_mod (pe_callTy call_int1 (by rfl) T.z_int (by decide +kernel) (pa_cons (pe_op op_mulA (pv 2) (pe_op op_add (pe_op op_fdivW (pv 2) pe_int) pe_int)) pa_nil)) pe_int))))),
    (ds_seq (ds_asg (de_op o_mod (de_cb o_int1 (da_cons (de_op o_mulA (de_op o_mod (de_cb o_int1 (da_cons (de_op o_add (de_op o_add (de_var 0) (de_op o_mulA de_int (de_var 1))) de_int) da_nil)) de_int) de_int) da_nil)) de_int) (dg_name 2))
      (ds_seq (ds_asg (de_op o_mod (de_cb o_int1 (da_cons (de_op o_mulA (de_var 2) (de_op o_add (de_op o_fdivW (de_var 2) de_int) de_int)) da_nil)) de_int) (dg_name 2))
      (ds_ret (de_op o_mod (de_cb o_int1 (da_cons (de_op o_mulA (de_var 2) (de_op o_add (de_op o_fdivW (de_var 2) de_int) de_int)) da_nil)) de_int))))⟩
abbrev s__law_draw : Stmt := topS 38
theorem sc__law_draw : FnScope ["source", "many", "number", "cell"] ["source", "many"] (defScope s__law_draw) := ⟨rfl, rfl, rfl, by decide +kernel, rfl, by decide +kernel, by decide +kernel⟩
def w__law_draw (K : PySem.W.Frag) : SW := (wSq (wSetOwn 0 (wOp gAddI (wIxOwn 0 (wC (.int 3))) (wC (.int 1))) (wC (.int 3)))
  (wSq (wIfS (wB (wOp gGtI (wIxOwn 0 (wC (.int 2))) (wC (.int 0)))) (wSq (wAsg (wIxOwn 0 (wC (.int 2))) (wName 2))
  (wSq (wSetOwn 0 (wOp gDivW (wVar 2) (wVar 1)) (wC (.int 2)))
  (wRet (wOp gModI (wCB gInt1 (wCons (wVar 2) wNil)) (wVar 1))))) wNext)
  (wSq (wIfS (wB (wOp gLtI (wIxOwn 0 (wC (.int 1))) (wCB gLen (wCons (wIxOwn 0 (wC (.int 0))) wNil)))) (wSq (wAsg (wOp gIx (wIxOwn 0 (wC (.int 0))) (wIxOwn 0 (wC (.int 1)))) (wName 3))
  (wSq (wSetOwn 0 (wOp gAddI (wIxOwn 0 (wC (.int 1))) (wC (.int 1))) (wC (.int 1)))
  (wSq (wAsg (wOp gAddI (wOp gMulA (wC (.int 2)) (wCB gAbs (wCons (wVar 3) wNil))) (wCB gInt1 (wCons (wOp gLtI (wVar 3) (wC (.int 0))) wNil))) (wName 2))
  (wSq (wIfS (wB (wOp gGeI (wVar 2) (wOp gPowI (wC (.int 10)) (wC (.int 18))))) (wSq (wSetOwn 0 (wOp gDivW (wVar 2) (wVar 1)) (wC (.int 2)))
  (wRet (wOp gModI (wCB gInt1 (wCons (wVar 2) wNil)) (wVar 1)))) wNext)
  (wRet (wOp gModI (wCB gInt1 (wCons (wOp gDivW (wCall 2 (fs__law_mixed K) (wcCons (wVar 2) (wcCons (wIxOwn 0 (wC (.int 3))) wcNil))) (wC (.int 16))) wNil)) (wVar 1))))))) wNext)
  (wRet (wOp gModI (wCB gInt1 (wCons (wOp gDivW (wCall 2 (fs__law_mixed K) (wcCons (wIxOwn 0 (wC (.int 4))) (wcCons (wIxOwn 0 (wC (.int 3))) wcNil))) (wC (.int 16))) wNil)) (wVar 1))))))
def fs__law_draw (K : PySem.W.Frag) : FS := fun cs q _ => ∃ (p : Addr) (c : Cont) (many : Int), cs = [.own p c, .dat (.int many)] ∧ SrcC c ∧ 0 < many ∧ many < 2 ^ 30 ∧
  ∀ (c' : Cont) (n : Int), SrcC c' → 0 ≤ n → n < many → q (.int n) [.own p c', .dat (.int many)]
theorem pure__law_draw : PureD 2 2 (fs__law_draw K) (w__law_draw K) := by
  rintro cs q e - ⟨p, c, many, rfl, ⟨ns, i, r, t, f, rfl, h0, h1⟩, hm, hm2, hq⟩
  simp only [w__law_draw, fs__law_mixed, wListRg1, wListRg2, wRngDown, wZipK, gInL, gNotInT, wCatOwn, gIsB, gNotB, D.adr.injEq, Cont.pool.injEq, ixN31, ne_eq, List.map_cons, List.map_nil, wPoolOpen, wPoolClose, wPop0, wPopTo, wListOwn, wRemove, wRaise0, wRaise1, wAugOwn, wEnumL, wTru, wSlA, gCatA, gLtT, gLeT, wFrz, wChain3, wAttr, wMkF, wEnumT, wRevT, wDict0, wDict1, numD3, Nat.reduceAdd, atI0, atI1, atI2, atI3, atI4, ixN51, ixN52, ixN53, List.length_map, wNever, scal, V.int.injEq, V.str.injEq, V.bl.injEq, wSq, wNext, wBreak, wCont, wDrop, wRet, wRetN, wIfS, wAsg, wPar, wLstOwn, wAppend, wSetOwn, wIxOwn, wPeek, wRetOwn, wRetFr, wFor, wB, wNot, wAnd, wOr, wAndV, wOrV, wNotV, wIf, wChain, wNil, wCons, wCB, wTup, wLst, wNoPart, wPart, wSlT, wSlL, wSeq, wRng1, wRng2, wZip, wName, wNilT, wConsT, wTupT, wYes, wNeg, wVar, wC, wOp, wcNil, wcCons, wcOwn, wCall, wCallOwn, slots, cellsOf, OwnArgs, putBack, g2I, g2IC, gLen, gAbs, gGcd, gInt1, gTupleOf, gListOf, gIx, gCatT, gCat, gEq, gNe, gIsN, gNotN, scD, seqD_t, seqD_l, seqD_f, isNonD, List.nodup_cons, List.mem_cons, List.not_mem_nil, or_false, not_false_eq_true, Nat.reduceEqDiff, L3.Keeps, ends, wipeD, List.replicate, List.cons_append, List.nil_append, List.append_nil, List.getElem?_cons_zero, List.getElem?_cons_succ, List.set_cons_zero, List.set_cons_succ, List.getD_cons_zero, List.getD_cons_succ, List.length_cons, List.length_nil, List.nodup_nil, Option.some.injEq, Cell.dat.injEq, Cell.own.injEq, Cont.lst.injEq, D.bl.injEq, D.int.injEq, D.str.injEq, D.tup.injEq, D.lst.injEq, Arg.d.injEq, List.cons.injEq, exists_and_left, exists_and_right, exists_eq_left', exists_eq_left, exists_eq_right, exists_eq_right', exists_eq, exists_eq', and_true, true_and, and_assoc, and_self, exists_const, reduceCtorEq]
  have em : ∀ x : Int, 0 ≤ x % many ∧ x % many < many := fun x => ⟨Int.emod_nonneg x (by omega), Int.emod_lt_of_pos x hm⟩
  by_cases h2 : 0 < r
  · simp only [h2, decide_true, true_implies, reduceCtorEq, false_implies, and_true]
    exact ⟨divw hm hm2, hm, hq _ _ ⟨ns, i, r / many, t + 1, f, rfl, h0, Int.ediv_nonneg (by omega) (by omega)⟩ (em _).1 (em _).2⟩
  · simp only [h2, decide_false, true_implies, reduceCtorEq, false_implies, true_and]
    by_cases h3 : i < (ns.length : Int)
    · simp only [h3, decide_true, true_implies, reduceCtorEq, false_implies, and_true]
      obtain ⟨k, rfl⟩ := Int.eq_ofNat_of_zero_le h0
      have hk : k < ns.length := by omega
      refine ⟨_, atI_nat' (by rw [List.getElem?_map, List.getElem?_eq_getElem hk]; rfl), _, rfl, cmul_l (by decide) (by decide), _, rfl, ⟨by decide, by decide, by decide⟩, fun _ => ?_, fun _ => ?_⟩
      · refine ⟨divw hm hm2, hm, hq _ _ ⟨ns, _, _, _, _, rfl, by omega, Int.ediv_nonneg ?_ (by omega)⟩ (em _).1 (em _).2⟩
        split <;> split <;> omega
      · exact fun r' _ _ => ⟨divw (by decide) (by decide), hm, hq _ _ ⟨ns, _, _, _, _, rfl, by omega, h1⟩ (em _).1 (em _).2⟩
    · simp only [h3, decide_false, true_implies, reduceCtorEq, false_implies, true_and]
      exact fun r' _ _ => ⟨divw (by decide) (by decide), hm, hq _ _ ⟨ns, _, _, _, _, rfl, h0, h1⟩ (em _).1 (em _).2⟩
theorem ok__law_draw (T : Txt K mg) : FnOk P w K mg base (L2.CX P w) 2 T.f__law_draw T.fd__law_draw ["source", "many"] (spOf K 2 (fs__law_draw K)) := by
  refine def_ok T.F__law_draw sc__law_draw (wb := w__law_draw K) pure__law_draw ?_
  intro cdv A outer s H E hr tk
  exact ⟨_, (pss_cons (ps_asg (pe_op op_add (pe_ix ix_seq (pv 0) pe_int (fun _ _ => rfl)) pe_int) (pg_sub (pv 0) pe_int set_list))
      (pss_cons (ps_if (pt_cmpR op_gt (pe_ix ix_seq (pv 0) pe_int (fun _ _ => rfl)) pe_int (nomark _))
        (pss_cons (ps_set (i := 2) sc__law_draw.nd rfl (by first | exact Or.inl rfl | exact Or.inr rfl) (pe_ix ix_seq (pv 0) pe_int (fun _ _ => rfl)))
      (pss_cons (ps_asg (pe_op op_fdivW (pv 2) (pv 1)) (pg_sub (pv 0) pe_int set_list))
      (pss_one (ps_ret (pe_op op_mod (pe_callTy call_int1 (by rfl) T.z_int (by decide +kernel) (pa_cons (pv 2) pa_nil)) (pv 1))))))
        pss_nil)
      (pss_cons (ps_if (pt_cmpR op_lt (pe_ix ix_seq (pv 0) pe_int (fun _ _ => rfl)) (pe_callB call_len_seq (by rfl) T.z_len (by decide +kernel) (pa_cons (pe_ix ix_seq (pv 0) pe_int (fun _ _ => rfl)) pa_nil)) (nomark _))
        (pss_cons (ps_set (i := 3) sc__law_draw.nd rfl (by first | exact Or.inl rfl | exact Or.inr rfl) (pe_ix ix_seq (pe_ix ix_seq (pv 0) pe_int (fun _ _ => rfl)) (pe_ix ix_seq (pv 0) pe_int (fun _ _ => rfl)) (fun _ _ => rfl)))
      (pss_cons (ps_asg (pe_op op_add (pe_ix ix_seq (pv 0) pe_int (fun _ _ => rfl)) pe_int) (pg_sub (pv 0) pe_int set_list))
      (pss_cons (ps_set (i := 2) sc__law_draw.nd rfl (by first | exact Or.inl rfl | exact Or.inr rfl) (pe_op op_add (pe_op op_mulA pe_int (pe_callB call_abs (by rfl) T.z_abs (by decide +kernel) (pa_cons (pv 3) pa_nil))) (pe_callTy call_int1 (by rfl) T.z_int (by decide +kernel) (pa_cons (pe_cmpR op_lt (pv 3) pe_int (nomark _)) pa_nil))))
      (pss_cons (ps_if (pt_cmpR op_ge (pv 2) (pe_op op_pow pe_int pe_int) (nomark _))
        (pss_cons (ps_asg (pe_op op_fdivW (pv 2) (pv 1)) (pg_sub (pv 0) pe_int set_list))
      (pss_one (ps_ret (pe_op op_mod (pe_callTy call_int1 (by rfl) T.z_int (by decide +kernel) (pa_cons (pv 2) pa_nil)) (pv 1)))))
        pss_nil)
      (pss_one (ps_ret (pe_op op_mod (pe_callTy call_int1 (by rfl) T.z_int (by decide +kernel) (pa_cons (pe_op op_fdivW (pe_callS (ok__law_mixed T) (hr.mono (by decide)) rfl T.g__law_mixed T.k__law_mixed T.b__law_mixed (fun σ => passAt tk σ) (pa_cons (pv 2) (pa_cons (pe_ix ix_seq (pv 0) pe_int (fun _ _ => rfl)) pa_nil))) pe_int) pa_nil)) (pv 1))))))))
        pss_nil)
      (pss_one (ps_ret (pe_op op_mod (pe_callTy call_int1 (by rfl) T.z_int (by decide +kernel) (pa_cons (pe_op op_fdivW (pe_callS (ok__law_mixed T) (hr.mono (by decide)) rfl T.g__law_mixed T.k__law_mixed T.b__law_mixed (fun σ => passAt tk σ) (pa_cons (pe_ix ix_seq (pv 0) pe_int (fun _ _ => rfl)) (pa_cons (pe_ix ix_seq (pv 0) pe_int (fun _ _ => rfl)) pa_nil))) pe_int) pa_nil)) (pv 1))))))),
    (ds_seq (ds_setOwn (i := 0) (de_op o_add (de_ixOwn (i := 0) de_int) de_int) de_int)
      (ds_seq (ds_if (dt_B (de_op o_gt (de_ixOwn (i := 0) de_int) de_int)) (ds_seq (ds_asg (de_ixOwn (i := 0) de_int) (dg_name 2))
      (ds_seq (ds_setOwn (i := 0) (de_op o_fdivW (de_var 2) (de_var 1)) de_int)
      (ds_ret (de_op o_mod (de_cb o_int1 (da_cons (de_var 2) da_nil)) (de_var 1))))) ds_nil)
      (ds_seq (ds_if (dt_B (de_op o_lt (de_ixOwn (i := 0) de_int) (de_cb o_len (da_cons (de_ixOwn (i := 0) de_int) da_nil)))) (ds_seq (ds_asg (de_op o_ix (de_ixOwn (i := 0) de_int) (de_ixOwn (i := 0) de_int)) (dg_name 3))
      (ds_seq (ds_setOwn (i := 0) (de_op o_add (de_ixOwn (i := 0) de_int) de_int) de_int)
      (ds_seq (ds_asg (de_op o_add (de_op o_mulA de_int (de_cb o_abs (da_cons (de_var 3) da_nil))) (de_cb o_int1 (da_cons (de_op o_lt (de_var 3) de_int) da_nil))) (dg_name 2))
      (ds_seq (ds_if (dt_B (de_op o_ge (de_var 2) (de_op o_pow de_int de_int))) (ds_seq (ds_setOwn (i := 0) (de_op o_fdivW (de_var 2) (de_var 1)) de_int)
      (ds_ret (de_op o_mod (de_cb o_int1 (da_cons (de_var 2) da_nil)) (de_var 1)))) ds_nil)
      (ds_ret (de_op o_mod (de_cb o_int1 (da_cons (de_op o_fdivW (de_call (n := 2) (fs := fs__law_mixed K) (dac_cons (de_var 2) (dac_cons (de_ixOwn (i := 0) de_int) dac_nil))) de_int) da_nil)) (de_var 1))))))) ds_nil)
      (ds_ret (de_op o_mod (de_cb o_int1 (da_cons (de_op o_fdivW (de_call (n := 2) (fs := fs__law_mixed K) (dac_cons (de_ixOwn (i := 0) de_int) (dac_cons (de_ixOwn (i := 0) de_int) dac_nil))) de_int) da_nil)) (de_var 1))))))⟩
abbrev s__law_pick : Stmt := topS 39
theorem sc__law_pick : FnScope ["source", "row"] ["source", "row"] (defScope s__law_pick) := ⟨rfl, rfl, rfl, by decide +kernel, rfl, by decide +kernel, by decide +kernel⟩
def w__law_pick (K : PySem.W.Frag) : SW := (wRet (wOp gIx (wVar 1) (wCall 2 (fs__law_draw K) (wcOwn 0 (wcCons (wCB gLen (wCons (wVar 1) wNil)) wcNil)))))
def fs__law_pick (K : PySem.W.Frag) : FS := fun cs q _ => ∃ (p : Addr) (c : Cont) (d : D) (es : List D), cs = [.own p c, .dat d] ∧ SrcC c ∧ seqD d = some es ∧ 0 < es.length ∧ es.length ≤ 1000 ∧
  ∀ (c' : Cont) (x : D), SrcC c' → x ∈ es → q x [.own p c', .dat d]
theorem atI_pos {α : Type} {l : List α} {n : Int} (h0 : 0 ≤ n) (h1 : n < l.length) : ∃ x, atI l n = some x ∧ x ∈ l := by
  obtain ⟨k, rfl⟩ := Int.eq_ofNat_of_zero_le h0
  have hk : k < l.length := by omega
  exact ⟨l[k], atI_nat' (List.getElem?_eq_getElem hk), List.getElem_mem hk⟩
theorem pure__law_pick : PureD 2 0 (fs__law_pick K) (w__law_pick K) := by
  rintro cs q e - ⟨p, c, d, es, rfl, hc, hs, h1, h2, hq⟩
  simp only [w__law_pick, fs__law_draw, hs, wListRg1, wListRg2, wRngDown, wZipK, gInL, gNotInT, wCatOwn, gIsB, gNotB, D.adr.injEq, Cont.pool.injEq, ixN31, ne_eq, List.map_cons, List.map_nil, wPoolOpen, wPoolClose, wPop0, wPopTo, wListOwn, wRemove, wRaise0, wRaise1, wAugOwn, wEnumL, wTru, wSlA, gCatA, gLtT, gLeT, wFrz, wChain3, wAttr, wMkF, wEnumT, wRevT, wDict0, wDict1, numD3, Nat.reduceAdd, atI0, atI1, atI2, atI3, atI4, ixN51, ixN52, ixN53, List.length_map, wNever, scal, V.int.injEq, V.str.injEq, V.bl.injEq, wSq, wNext, wBreak, wCont, wDrop, wRet, wRetN, wIfS, wAsg, wPar, wLstOwn, wAppend, wSetOwn, wIxOwn, wPeek, wRetOwn, wRetFr, wFor, wB, wNot, wAnd, wOr, wAndV, wOrV, wNotV, wIf, wChain, wNil, wCons, wCB, wTup, wLst, wNoPart, wPart, wSlT, wSlL, wSeq, wRng1, wRng2, wZip, wName, wNilT, wConsT, wTupT, wYes, wNeg, wVar, wC, wOp, wcNil, wcCons, wcOwn, wCall, wCallOwn, slots, cellsOf, OwnArgs, putBack, g2I, g2IC, gLen, gAbs, gGcd, gInt1, gTupleOf, gListOf, gIx, gCatT, gCat, gEq, gNe, gIsN, gNotN, scD, seqD_t, seqD_l, seqD_f, isNonD, List.nodup_cons, List.mem_cons, List.not_mem_nil, or_false, not_false_eq_true, Nat.reduceEqDiff, L3.Keeps, ends, wipeD, List.replicate, List.cons_append, List.nil_append, List.append_nil, List.getElem?_cons_zero, List.getElem?_cons_succ, List.set_cons_zero, List.set_cons_succ, List.getD_cons_zero, List.getD_cons_succ, List.length_cons, List.length_nil, List.nodup_nil, Option.some.injEq, Cell.dat.injEq, Cell.own.injEq, Cont.lst.injEq, D.bl.injEq, D.int.injEq, D.str.injEq, D.tup.injEq, D.lst.injEq, Arg.d.injEq, List.cons.injEq, exists_and_left, exists_and_right, exists_eq_left', exists_eq_left, exists_eq_right, exists_eq_right', exists_eq, exists_eq', and_true, true_and, and_assoc, and_self, exists_const, reduceCtorEq]
  refine ⟨hc, by omega, by omega, fun c' n hc' h3 h4 => ?_⟩
  obtain ⟨x, e1, e2⟩ := atI_pos h3 h4
  exact ⟨x, e1, hq c' x hc' e2⟩
theorem ok__law_pick (T : Txt K mg) : FnOk P w K mg base (L2.CX P w) 3 T.f__law_pick T.fd__law_pick ["source", "row"] (spOf K 2 (fs__law_pick K)) := by
  refine def_ok T.F__law_pick sc__law_pick (wb := w__law_pick K) pure__law_pick ?_
  intro cdv A outer s H E hr tk
  exact ⟨_, (pss_one (ps_ret (pe_ix ix_seq (pv 1) (pe_callS (ok__law_draw T) (hr.mono (by decide)) rfl T.g__law_draw T.k__law_draw T.b__law_draw (fun σ => passAt tk σ) (pa_cons (pv 0) (pa_cons (pe_callB call_len_seq (by rfl) T.z_len (by decide +kernel) (pa_cons (pv 1) pa_nil)) pa_nil))) (fun _ _ => rfl)))),
    (ds_ret (de_op o_ix (de_var 1) (de_call (n := 2) (fs := fs__law_draw K) (dac_own (j := 0) (dac_cons (de_cb o_len (da_cons (de_var 1) da_nil)) dac_nil)))))⟩
def w__law_pick_o1 (K : PySem.W.Frag) : SW := (wRet (wIxOwn 1 (wCall 2 (fs__law_draw K) (wcOwn 0 (wcCons (wPeek 1 (fun es q => q (.int es.length))) wcNil)))))
def fs__law_pick_o1 (K : PySem.W.Frag) : FS := fun cs q _ => ∃ (p : Addr) (c : Cont) (p' : Addr) (es : List D), cs = [.own p c, .own p' (.lst es)] ∧ SrcC c ∧ 0 < es.length ∧ es.length ≤ 1000 ∧
  ∀ (c' : Cont) (x : D), SrcC c' → x ∈ es → q x [.own p c', .own p' (.lst es)]
theorem pure__law_pick_o1 : PureD 2 0 (fs__law_pick_o1 K) (w__law_pick_o1 K) := by
  rintro cs q e - ⟨p, c, p', es, rfl, hc, h1, h2, hq⟩
  simp only [w__law_pick_o1, fs__law_draw, wListRg1, wListRg2, wRngDown, wZipK, gInL, gNotInT, wCatOwn, gIsB, gNotB, D.adr.injEq, Cont.pool.injEq, ixN31, ne_eq, List.map_cons, List.map_nil, wPoolOpen, wPoolClose, wPop0, wPopTo, wListOwn, wRemove, wRaise0, wRaise1, wAugOwn, wEnumL, wTru, wSlA, gCatA, gLtT, gLeT, wFrz, wChain3, wAttr, wMkF, wEnumT, wRevT, wDict0, wDict1, numD3, Nat.reduceAdd, atI0, atI1, atI2, atI3, atI4, ixN51, ixN52, ixN53, List.length_map, wNever, scal, V.int.injEq, V.str.injEq, V.bl.injEq, wSq, wNext, wBreak, wCont, wDrop, wRet, wRetN, wIfS, wAsg, wPar, wLstOwn, wAppend, wSetOwn, wIxOwn, wPeek, wRetOwn, wRetFr, wFor, wB, wNot, wAnd, wOr, wAndV, wOrV, wNotV, wIf, wChain, wNil, wCons, wCB, wTup, wLst, wNoPart, wPart, wSlT, wSlL, wSeq, wRng1, wRng2, wZip, wName, wNilT, wConsT, wTupT, wYes, wNeg, wVar, wC, wOp, wcNil, wcCons, wcOwn, wCall, wCallOwn, slots, cellsOf, OwnArgs, putBack, g2I, g2IC, gLen, gAbs, gGcd, gInt1, gTupleOf, gListOf, gIx, gCatT, gCat, gEq, gNe, gIsN, gNotN, scD, seqD_t, seqD_l, seqD_f, isNonD, List.nodup_cons, List.mem_cons, List.not_mem_nil, or_false, not_false_eq_true, Nat.reduceEqDiff, L3.Keeps, ends, wipeD, List.replicate, List.cons_append, List.nil_append, List.append_nil, List.getElem?_cons_zero, List.getElem?_cons_succ, List.set_cons_zero, List.set_cons_succ, List.getD_cons_zero, List.getD_cons_succ, List.length_cons, List.length_nil, List.nodup_nil, Option.some.injEq, Cell.dat.injEq, Cell.own.injEq, Cont.lst.injEq, D.bl.injEq, D.int.injEq, D.str.injEq, D.tup.injEq, D.lst.injEq, Arg.d.injEq, List.cons.injEq, exists_and_left, exists_and_right, exists_eq_left', exists_eq_left, exists_eq_right, exists_eq_right', exists_eq, exists_eq', and_true, true_and, and_assoc, and_self, exists_const, reduceCtorEq]
  refine ⟨hc, by omega, by omega, fun c' n hc' h3 h4 => ?_⟩
  obtain ⟨x, e1, e2⟩ := atI_pos h3 h4
  exact ⟨x, e1, hq c' x hc' e2⟩
theorem ok__law_pick_o1 (T : Txt K mg) : FnOk P w K mg base (L2.CX P w) 3 T.f__law_pick T.fd__law_pick ["source", "row"] (spOf K 2 (fs__law_pick_o1 K)) := by
  refine def_ok T.F__law_pick sc__law_pick (wb := w__law_pick_o1 K) pure__law_pick_o1 ?_
  intro cdv A outer s H E hr tk
  exact ⟨_, (pss_one (ps_ret (pe_ix ix_seq (pv 1) (pe_callS (ok__law_draw T) (hr.mono (by decide)) rfl T.g__law_draw T.k__law_draw T.b__law_draw (fun σ => passAt tk σ) (pa_cons (pv 0) (pa_cons (pe_callB call_len_seq (by rfl) T.z_len (by decide +kernel) (pa_cons (pv 1) pa_nil)) pa_nil))) (fun _ _ => rfl)))),
    (ds_ret (de_ixOwn (i := 1) (de_call (n := 2) (fs := fs__law_draw K) (dac_own (j := 0) (dac_cons (de_peek (i := 1) p_len) dac_nil)))))⟩
abbrev s__law_divisor : Stmt := topS 40
theorem sc__law_divisor : FnScope ["one", "other", "turn"] ["one", "other"] (defScope s__law_divisor) := ⟨rfl, rfl, rfl, by decide +kernel, rfl, by decide +kernel, by decide +kernel⟩
def l1__law_divisor (K : PySem.W.Frag) : SW := wFor (wRng1 (wCons (wC (.int 600)) wNil)) (wName 2) (wSq (wIfS (wB (wOp gEq (wVar 1) (wC (.int 0)))) wBreak wNext)
  (wPar 0 1 (wCons (wVar 1) (wCons (wOp gModI (wCB gInt1 (wCons (wVar 0) wNil)) (wVar 1)) wNil))))
def w__law_divisor (K : PySem.W.Frag) : SW := (wSq (wPar 0 1 (wCons (wCB gAbs (wCons (wVar 0) wNil)) (wCons (wCB gAbs (wCons (wVar 1) wNil)) wNil)))
  (wSq (l1__law_divisor K)
  (wRet (wVar 0))))
def fs__law_divisor (K : PySem.W.Frag) : FS := fun cs q _ => ∃ (a b : Int), cs = [.dat (.int a), .dat (.int b)] ∧ b.natAbs < 2 ^ 400 ∧ q (.int (Nat.gcd a.natAbs b.natAbs : Nat)) cs
def fibP : Nat → Nat × Nat
  | 0 => (0, 1)
  | n + 1 => ((fibP n).2, (fibP n).1 + (fibP n).2)
theorem fib_big : 2 ^ 400 ≤ (fibP 599).2 := by decide +kernel
/-- behind i turns, i above 0 -/
def FibI (b i m n : Nat) : Prop := n < m ∧ (fibP (i - 1)).2 * m + (fibP (i - 1)).1 * n ≤ b
theorem gcd_step {m n g i b : Nat} (hn : 0 < n) (hg : Nat.gcd m n = g) (h0 : i = 0 → n = b) (h1 : 0 < i → FibI b i m n) :
    Nat.gcd n (m % n) = g ∧ FibI b (i + 1) n (m % n) := by
  have hl : m % n < n := Nat.mod_lt m hn
  refine ⟨by rw [← hg, Nat.gcd_comm m n, Nat.gcd_rec n m, Nat.gcd_comm], hl, ?_⟩
  cases i with
  | zero =>
    have := h0 rfl
    show (fibP 0).2 * n + (fibP 0).1 * (m % n) ≤ b
    simp only [fibP]
    omega
  | succ i =>
    obtain ⟨a1, a2⟩ := h1 (Nat.succ_pos i)
    have a2 : (fibP i).2 * m + (fibP i).1 * n ≤ b := a2
    show ((fibP i).1 + (fibP i).2) * n + (fibP i).2 * (m % n) ≤ b
    have e := Nat.div_add_mod m n
    have q1 : 1 ≤ m / n := Nat.div_pos (Nat.le_of_lt a1) hn
    have q2 : n * 1 ≤ n * (m / n) := Nat.mul_le_mul_left n q1
    have q3 : n + m % n ≤ m := by omega
    have q4 := Nat.mul_le_mul_left (fibP i).2 q3
    rw [Nat.mul_add] at q4
    rw [Nat.add_mul]
    omega
theorem gcd_end {m n b : Nat} (hb : b < 2 ^ 400) (h1 : FibI b 600 m n) : n = 0 := by
  obtain ⟨a1, a2⟩ := h1
  have a2 : (fibP 599).2 * m + (fibP 599).1 * n ≤ b := a2
  cases n with
  | zero => rfl
  | succ n =>
    have hm : 1 ≤ m := by omega
    have := Nat.mul_le_mul_left (fibP 599).2 hm
    have := fib_big
    omega
theorem abs_nat (a : Int) : (if a < 0 then -a else a) = ((a.natAbs : Nat) : Int) := by split <;> omega
def InvDiv (a b i : Nat) (τ : List Cell) : Prop := ∃ (m n : Nat) (c : Cell), τ = [.dat (.int m), .dat (.int n), c] ∧ Nat.gcd m n = Nat.gcd a b ∧ (i = 0 → n = b) ∧ (0 < i → FibI b i m n)
theorem l1__law_divisor_ok {a b : Nat} {c2 : Cell} {E : EndsD} (hb : b < 2 ^ 400) (hq : ∀ (n : Nat) (c : Cell), E.nx [.dat (.int (Nat.gcd a b : Nat)), .dat (.int n), c]) :
    l1__law_divisor K E [.dat (.int a), .dat (.int b), c2] := by
  unfold l1__law_divisor wFor
  refine ⟨600, rfl, by decide, by decide, InvDiv a b, ⟨a, b, c2, rfl, rfl, fun _ => rfl, fun h => absurd h (Nat.lt_irrefl _)⟩, ?_, ?_⟩
  · rintro i d τ2 hd ⟨m, n, c, rfl, hg, h0, h1⟩
    simp only [wListRg1, wListRg2, wRngDown, wZipK, gInL, gNotInT, wCatOwn, gIsB, gNotB, D.adr.injEq, Cont.pool.injEq, ixN31, ne_eq, List.map_cons, List.map_nil, wPoolOpen, wPoolClose, wPop0, wPopTo, wListOwn, wRemove, wRaise0, wRaise1, wAugOwn, wEnumL, wTru, wSlA, gCatA, gLtT, gLeT, wFrz, wChain3, wAttr, wMkF, wEnumT, wRevT, wDict0, wDict1, numD3, Nat.reduceAdd, atI0, atI1, atI2, atI3, atI4, ixN51, ixN52, ixN53, List.length_map, wNever, scal, V.int.injEq, V.str.injEq, V.bl.injEq, wSq, wNext, wBreak, wCont, wDrop, wRet, wRetN, wIfS, wAsg, wPar, wLstOwn, wAppend, wSetOwn, wIxOwn, wPeek, wRetOwn, wRetFr, wFor, wB, wNot, wAnd, wOr, wAndV, wOrV, wNotV, wIf, wChain, wNil, wCons, wCB, wTup, wLst, wNoPart, wPart, wSlT, wSlL, wSeq, wRng1, wRng2, wZip, wName, wNilT, wConsT, wTupT, wYes, wNeg, wVar, wC, wOp, wcNil, wcCons, wcOwn, wCall, wCallOwn, slots, cellsOf, OwnArgs, putBack, g2I, g2IC, gLen, gAbs, gGcd, gInt1, gTupleOf, gListOf, gIx, gCatT, gCat, gEq, gNe, gIsN, gNotN, scD, seqD_t, seqD_l, seqD_f, isNonD, List.nodup_cons, List.mem_cons, List.not_mem_nil, or_false, not_false_eq_true, Nat.reduceEqDiff, L3.Keeps, ends, wipeD, List.replicate, List.cons_append, List.nil_append, List.append_nil, List.getElem?_cons_zero, List.getElem?_cons_succ, List.set_cons_zero, List.set_cons_succ, List.getD_cons_zero, List.getD_cons_succ, List.length_cons, List.length_nil, List.nodup_nil, Option.some.injEq, Cell.dat.injEq, Cell.own.injEq, Cont.lst.injEq, D.bl.injEq, D.int.injEq, D.str.injEq, D.tup.injEq, D.lst.injEq, Arg.d.injEq, List.cons.injEq, exists_and_left, exists_and_right, exists_eq_left', exists_eq_left, exists_eq_right, exists_eq_right', exists_eq, exists_eq', and_true, true_and, and_assoc, and_self, exists_const, reduceCtorEq]
    by_cases hn : n = 0
    · subst hn
      rw [Nat.gcd_zero_right] at hg
      refine ⟨fun _ => ?_, fun z => ?_⟩
      · rw [hg]; exact hq 0 _
      · simp at z
    · refine ⟨fun z => ?_, fun _ => ?_⟩
      · simp at z; omega
      · have hn' : 0 < n := Nat.pos_of_ne_zero hn
        obtain ⟨g1, g2⟩ := gcd_step hn' hg h0 h1
        refine ⟨by omega, ?_⟩
        exact ⟨n, m % n, _, rfl, g1, fun z => absurd z (Nat.succ_ne_zero i), fun _ => g2⟩
  · rintro τ2 ⟨m, n, c, rfl, hg, h0, h1⟩
    rw [rangeD_length] at h0 h1
    have hn := gcd_end hb (h1 (by decide))
    subst hn
    rw [Nat.gcd_zero_right] at hg
    rw [hg]
    exact hq 0 c
theorem pure__law_divisor : PureD 2 1 (fs__law_divisor K) (w__law_divisor K) := by
  rintro cs q e - ⟨a, b, rfl, hb, hq⟩
  simp only [w__law_divisor, abs_nat, wListRg1, wListRg2, wRngDown, wZipK, gInL, gNotInT, wCatOwn, gIsB, gNotB, D.adr.injEq, Cont.pool.injEq, ixN31, ne_eq, List.map_cons, List.map_nil, wPoolOpen, wPoolClose, wPop0, wPopTo, wListOwn, wRemove, wRaise0, wRaise1, wAugOwn, wEnumL, wTru, wSlA, gCatA, gLtT, gLeT, wFrz, wChain3, wAttr, wMkF, wEnumT, wRevT, wDict0, wDict1, numD3, Nat.reduceAdd, atI0, atI1, atI2, atI3, atI4, ixN51, ixN52, ixN53, List.length_map, wNever, scal, V.int.injEq, V.str.injEq, V.bl.injEq, wSq, wNext, wBreak, wCont, wDrop, wRet, wRetN, wIfS, wAsg, wPar, wLstOwn, wAppend, wSetOwn, wIxOwn, wPeek, wRetOwn, wRetFr, wFor, wB, wNot, wAnd, wOr, wAndV, wOrV, wNotV, wIf, wChain, wNil, wCons, wCB, wTup, wLst, wNoPart, wPart, wSlT, wSlL, wSeq, wRng1, wRng2, wZip, wName, wNilT, wConsT, wTupT, wYes, wNeg, wVar, wC, wOp, wcNil, wcCons, wcOwn, wCall, wCallOwn, slots, cellsOf, OwnArgs, putBack, g2I, g2IC, gLen, gAbs, gGcd, gInt1, gTupleOf, gListOf, gIx, gCatT, gCat, gEq, gNe, gIsN, gNotN, scD, seqD_t, seqD_l, seqD_f, isNonD, List.nodup_cons, List.mem_cons, List.not_mem_nil, or_false, not_false_eq_true, Nat.reduceEqDiff, L3.Keeps, ends, wipeD, List.replicate, List.cons_append, List.nil_append, List.append_nil, List.getElem?_cons_zero, List.getElem?_cons_succ, List.set_cons_zero, List.set_cons_succ, List.getD_cons_zero, List.getD_cons_succ, List.length_cons, List.length_nil, List.nodup_nil, Option.some.injEq, Cell.dat.injEq, Cell.own.injEq, Cont.lst.injEq, D.bl.injEq, D.int.injEq, D.str.injEq, D.tup.injEq, D.lst.injEq, Arg.d.injEq, List.cons.injEq, exists_and_left, exists_and_right, exists_eq_left', exists_eq_left, exists_eq_right, exists_eq_right', exists_eq, exists_eq', and_true, true_and, and_assoc, and_self, exists_const, reduceCtorEq]
  refine l1__law_divisor_ok hb fun n c => ?_
  simp only [wListRg1, wListRg2, wRngDown, wZipK, gInL, gNotInT, wCatOwn, gIsB, gNotB, D.adr.injEq, Cont.pool.injEq, ixN31, ne_eq, List.map_cons, List.map_nil, wPoolOpen, wPoolClose, wPop0, wPopTo, wListOwn, wRemove, wRaise0, wRaise1, wAugOwn, wEnumL, wTru, wSlA, gCatA, gLtT, gLeT, wFrz, wChain3, wAttr, wMkF, wEnumT, wRevT, wDict0, wDict1, numD3, Nat.reduceAdd, atI0, atI1, atI2, atI3, atI4, ixN51, ixN52, ixN53, List.length_map, wNever, scal, V.int.injEq, V.str.injEq, V.bl.injEq, wSq, wNext, wBreak, wCont, wDrop, wRet, wRetN, wIfS, wAsg, wPar, wLstOwn, wAppend, wSetOwn, wIxOwn, wPeek, wRetOwn, wRetFr, wFor, wB, wNot, wAnd, wOr, wAndV, wOrV, wNotV, wIf, wChain, wNil, wCons, wCB, wTup, wLst, wNoPart, wPart, wSlT, wSlL, wSeq, wRng1, wRng2, wZip, wName, wNilT, wConsT, wTupT, wYes, wNeg, wVar, wC, wOp, wcNil, wcCons, wcOwn, wCall, wCallOwn, slots, cellsOf, OwnArgs, putBack, g2I, g2IC, gLen, gAbs, gGcd, gInt1, gTupleOf, gListOf, gIx, gCatT, gCat, gEq, gNe, gIsN, gNotN, scD, seqD_t, seqD_l, seqD_f, isNonD, List.nodup_cons, List.mem_cons, List.not_mem_nil, or_false, not_false_eq_true, Nat.reduceEqDiff, L3.Keeps, ends, wipeD, List.replicate, List.cons_append, List.nil_append, List.append_nil, List.getElem?_cons_zero, List.getElem?_cons_succ, List.set_cons_zero, List.set_cons_succ, List.getD_cons_zero, List.getD_cons_succ, List.length_cons, List.length_nil, List.nodup_nil, Option.some.injEq, Cell.dat.injEq, Cell.own.injEq, Cont.lst.injEq, D.bl.injEq, D.int.injEq, D.str.injEq, D.tup.injEq, D.lst.injEq, Arg.d.injEq, List.cons.injEq, exists_and_left, exists_and_right, exists_eq_left', exists_eq_left, exists_eq_right, exists_eq_right', exists_eq, exists_eq', and_true, true_and, and_assoc, and_self, exists_const, reduceCtorEq]
  exact hq
theorem ok__law_divisor (T : Txt K mg) : FnOk P w K mg base (L2.CX P w) 1 T.f__law_divisor T.fd__law_divisor ["one", "other"] (spOf K 2 (fs__law_divisor K)) := by
  refine def_ok T.F__law_divisor sc__law_divisor (wb := w__law_divisor K) pure__law_divisor ?_
  intro cdv A outer s H E hr tk
  exact ⟨_, (pss_cons (ps_par (i := 0) (j := 1) (by rfl) sc__law_divisor.nd rfl rfl (by decide) rfl rfl (pa_cons (pe_callB call_abs (by rfl) T.z_abs (by decide +kernel) (pa_cons (pv 0) pa_nil)) (pa_cons (pe_callB call_abs (by rfl) T.z_abs (by decide +kernel) (pa_cons (pv 1) pa_nil)) pa_nil)) (by rfl))
      (pss_cons (ps_for (passes_of rfl) rfl (pi_range1 (by rfl) T.z_range (pa_cons pe_int pa_nil)) (pg_name (i := 2) sc__law_divisor.nd rfl (by first | exact Or.inl rfl | exact Or.inr rfl))
        (pss_cons (ps_if (pt_cmpR op_eq (pv 1) pe_int (nomark _))
        (pss_one ps_break)
        pss_nil)
      (pss_one (ps_par (i := 0) (j := 1) (by rfl) sc__law_divisor.nd rfl rfl (by decide) rfl rfl (pa_cons (pv 1) (pa_cons (pe_op op_mod (pe_callTy call_int1 (by rfl) T.z_int (by decide +kernel) (pa_cons (pv 0) pa_nil)) (pv 1)) pa_nil)) (by rfl)))))
      (pss_one (ps_ret (pv 0))))),
    (ds_seq (ds_par (i := 0) (j := 1) (da_cons (de_cb o_abs (da_cons (de_var 0) da_nil)) (da_cons (de_cb o_abs (da_cons (de_var 1) da_nil)) da_nil)))
      (ds_seq (ds_for (wI := (wRng1 (wCons (wC (.int 600)) wNil))) (wg := (wName 2)) (wb := (wSq (wIfS (wB (wOp gEq (wVar 1) (wC (.int 0)))) wBreak wNext)
  (wPar 0 1 (wCons (wVar 1) (wCons (wOp gModI (wCB gInt1 (wCons (wVar 0) wNil)) (wVar 1)) wNil))))) (di_rng1 (da_cons de_int da_nil)) (dg_name 2) (ds_seq (ds_if (dt_B (de_op o_eq (de_var 1) de_int)) ds_break ds_nil)
      (ds_par (i := 0) (j := 1) (da_cons (de_var 1) (da_cons (de_op o_mod (de_cb o_int1 (da_cons (de_var 0) da_nil)) (de_var 1)) da_nil)))))
      (ds_ret (de_var 0))))⟩
abbrev s__law_made : Stmt := topS 41
theorem sc__law_made : FnScope ["top", "bottom", "part"] ["top", "bottom"] (defScope s__law_made) := ⟨rfl, rfl, rfl, by decide +kernel, rfl, by decide +kernel, by decide +kernel⟩
def w__law_made (K : PySem.W.Frag) : SW := (wSq (wAsg (wCall 2 (fs__law_divisor K) (wcCons (wVar 0) (wcCons (wVar 1) wcNil))) (wName 2))
  (wRet (wTup (wCons (wOp gDivW (wVar 0) (wVar 2)) (wCons (wOp gDivW (wVar 1) (wVar 2)) wNil)))))
def fs__law_made (K : PySem.W.Frag) : FS := fun cs q _ => ∃ (t b : Int), cs = [.dat (.int t), .dat (.int b)] ∧ 0 < b ∧ b.natAbs < 2 ^ 400 ∧ q (nf t b) cs
theorem pure__law_made : PureD 2 1 (fs__law_made K) (w__law_made K) := by
  rintro cs q e - ⟨t, b, rfl, h0, h2, hq⟩
  simp only [w__law_made, fs__law_divisor, wListRg1, wListRg2, wRngDown, wZipK, gInL, gNotInT, wCatOwn, gIsB, gNotB, D.adr.injEq, Cont.pool.injEq, ixN31, ne_eq, List.map_cons, List.map_nil, wPoolOpen, wPoolClose, wPop0, wPopTo, wListOwn, wRemove, wRaise0, wRaise1, wAugOwn, wEnumL, wTru, wSlA, gCatA, gLtT, gLeT, wFrz, wChain3, wAttr, wMkF, wEnumT, wRevT, wDict0, wDict1, numD3, Nat.reduceAdd, atI0, atI1, atI2, atI3, atI4, ixN51, ixN52, ixN53, List.length_map, wNever, scal, V.int.injEq, V.str.injEq, V.bl.injEq, wSq, wNext, wBreak, wCont, wDrop, wRet, wRetN, wIfS, wAsg, wPar, wLstOwn, wAppend, wSetOwn, wIxOwn, wPeek, wRetOwn, wRetFr, wFor, wB, wNot, wAnd, wOr, wAndV, wOrV, wNotV, wIf, wChain, wNil, wCons, wCB, wTup, wLst, wNoPart, wPart, wSlT, wSlL, wSeq, wRng1, wRng2, wZip, wName, wNilT, wConsT, wTupT, wYes, wNeg, wVar, wC, wOp, wcNil, wcCons, wcOwn, wCall, wCallOwn, slots, cellsOf, OwnArgs, putBack, g2I, g2IC, gLen, gAbs, gGcd, gInt1, gTupleOf, gListOf, gIx, gCatT, gCat, gEq, gNe, gIsN, gNotN, scD, seqD_t, seqD_l, seqD_f, isNonD, List.nodup_cons, List.mem_cons, List.not_mem_nil, or_false, not_false_eq_true, Nat.reduceEqDiff, L3.Keeps, ends, wipeD, List.replicate, List.cons_append, List.nil_append, List.append_nil, List.getElem?_cons_zero, List.getElem?_cons_succ, List.set_cons_zero, List.set_cons_succ, List.getD_cons_zero, List.getD_cons_succ, List.length_cons, List.length_nil, List.nodup_nil, Option.some.injEq, Cell.dat.injEq, Cell.own.injEq, Cont.lst.injEq, D.bl.injEq, D.int.injEq, D.str.injEq, D.tup.injEq, D.lst.injEq, Arg.d.injEq, List.cons.injEq, exists_and_left, exists_and_right, exists_eq_left', exists_eq_left, exists_eq_right, exists_eq_right', exists_eq, exists_eq', and_true, true_and, and_assoc, and_self, exists_const, reduceCtorEq]
  have w := gcd_w (t := t) h0 (Nat.lt_of_lt_of_le h2 (pow_le (by decide)))
  exact ⟨h2, w _, w _, by decide, hq⟩
theorem ok__law_made (T : Txt K mg) : FnOk P w K mg base (L2.CX P w) 2 T.f__law_made T.fd__law_made ["top", "bottom"] (spOf K 2 (fs__law_made K)) := by
  refine def_ok T.F__law_made sc__law_made (wb := w__law_made K) pure__law_made ?_
  intro cdv A outer s H E hr tk
  exact ⟨_, (pss_cons (ps_set (i := 2) sc__law_made.nd rfl (by first | exact Or.inl rfl | exact Or.inr rfl) (pe_callS (ok__law_divisor T) (hr.mono (by decide)) rfl T.g__law_divisor T.k__law_divisor T.b__law_divisor (fun σ => passAt tk σ) (pa_cons (pv 0) (pa_cons (pv 1) pa_nil))))
      (pss_one (ps_ret (pe_tup (pa_cons (pe_op op_fdivW (pv 0) (pv 2)) (pa_cons (pe_op op_fdivW (pv 1) (pv 2)) pa_nil)))))),
    (ds_seq (ds_asg (de_call (n := 2) (fs := fs__law_divisor K) (dac_cons (de_var 0) (dac_cons (de_var 1) dac_nil))) (dg_name 2))
      (ds_ret (de_tup (da_cons (de_op o_fdivW (de_var 0) (de_var 2)) (da_cons (de_op o_fdivW (de_var 1) (de_var 2)) da_nil)))))⟩
abbrev s__law_same : Stmt := topS 42
theorem sc__law_same : FnScope ["actual", "expected", "k"] ["actual", "expected"] (defScope s__law_same) := ⟨rfl, rfl, rfl, by decide +kernel, rfl, by decide +kernel, by decide +kernel⟩
def l1__law_same (K : PySem.W.Frag) (R : FS) : SW := wFor (wRng1 (wCons (wCB gLen (wCons (wVar 1) wNil)) wNil)) (wName 2) (wIfS (wNot (wB (wCall 2 R (wcCons (wOp gIx (wVar 0) (wVar 2)) (wcCons (wOp gIx (wVar 1) (wVar 2)) wcNil))))) (wRet (wC (.bl false))) wNext)
def w__law_same (K : PySem.W.Frag) (R : FS) : SW := (wSq (wIfS (wB (wOp gIsN (wVar 1) (wC .non))) (wRet (wOp gIsN (wVar 0) (wC .non))) wNext)
  (wSq (wIfS (wB (wCB (gIsi K) (wCons (wVar 1) (wCons (wC (.ty "bool")) wNil)))) (wRet (wAndV (wCB (gIsi K) (wCons (wVar 0) (wCons (wC (.ty "bool")) wNil))) (wOp gEqD (wVar 0) (wVar 1)))) wNext)
  (wSq (wIfS (wB (wCB (gIsi K) (wCons (wVar 1) (wCons (wC (.ty "int")) wNil)))) (wRet (wAndV (wCB (gIsi K) (wCons (wVar 0) (wCons (wC (.ty "int")) wNil))) (wAndV (wNotV (wCB (gIsi K) (wCons (wVar 0) (wCons (wC (.ty "bool")) wNil)))) (wOp gEqD (wVar 0) (wVar 1))))) wNext)
  (wSq (wIfS (wB (wCB (gIsi K) (wCons (wVar 1) (wCons (wC (.ty "str")) wNil)))) (wRet (wAndV (wCB (gIsi K) (wCons (wVar 0) (wCons (wC (.ty "str")) wNil))) (wOp gEqD (wVar 0) (wVar 1)))) wNext)
  (wSq (wIfS (wAnd (wB (wCB (gIsi K) (wCons (wVar 1) (wCons (wC (.ty "tuple")) wNil)))) (wNot (wB (wCB (gIsi K) (wCons (wVar 0) (wCons (wC (.ty "tuple")) wNil)))))) (wRet (wC (.bl false))) wNext)
  (wSq (wIfS (wAnd (wB (wCB (gIsi K) (wCons (wVar 1) (wCons (wC (.ty "list")) wNil)))) (wNot (wB (wCB (gIsi K) (wCons (wVar 0) (wCons (wC (.ty "list")) wNil)))))) (wRet (wC (.bl false))) wNext)
  (wSq (wIfS (wB (wOp gNe (wCB gLen (wCons (wVar 0) wNil)) (wCB gLen (wCons (wVar 1) wNil)))) (wRet (wC (.bl false))) wNext)
  (wSq (l1__law_same K R)
  (wRet (wC (.bl true)))))))))))
/-- things that are held one against the other, n deep at most -/
def SameD : Nat → D → Prop
  | 0, _ => False
  | _ + 1, .non => True
  | _ + 1, .bl _ => True
  | _ + 1, .int _ => True
  | _ + 1, .str x => SeqAt.shaped (.str x) = true
  | n + 1, .tup ds => ds.length ≤ 1000 ∧ ∀ d ∈ ds, SameD n d
  | n + 1, .lst ds => ds.length ≤ 1000 ∧ ∀ d ∈ ds, SameD n d
  | _ + 1, _ => False
theorem sameD_ok : ∀ {n : Nat} {d : D}, SameD n d → OkD K d
  | 0, _, h => h.elim
  | n + 1, .non, _ => by unfold OkD; trivial
  | n + 1, .bl _, _ => by unfold OkD; trivial
  | n + 1, .int _, _ => by unfold OkD; trivial
  | n + 1, .str _, _ => by unfold OkD; trivial
  | n + 1, .tup ds, h => by
    unfold OkD
    exact okDs_of fun d hd => sameD_ok (h.2 d hd)
  | n + 1, .lst ds, h => by
    unfold OkD
    exact okDs_of fun d hd => sameD_ok (h.2 d hd)
  | n + 1, .fl _, h => h.elim
  | n + 1, .ty _, h => h.elim
  | n + 1, .oth _, h => h.elim
  | n + 1, .ins _ _, h => h.elim
theorem pln_same : ∀ {n : Nat} {d : D}, PlnD n d → SameD n d
  | 0, _, h => h.elim
  | _ + 1, .int _, _ => trivial
  | n + 1, .tup ds, h => ⟨h.1, fun d hd => pln_same (h.2 d hd)⟩
  | _ + 1, .non, h => h.elim
  | _ + 1, .bl _, h => h.elim
  | _ + 1, .str _, h => h.elim
  | _ + 1, .lst _, h => h.elim
  | _ + 1, .fl _, h => h.elim
  | _ + 1, .ty _, h => h.elim
  | _ + 1, .oth _, h => h.elim
  | _ + 1, .ins _ _, h => h.elim
def fs__law_same (K : PySem.W.Frag) (n : Nat) : FS := fun cs q _ => ∃ x y : D, cs = [.dat x, .dat y] ∧ n ≠ 0 ∧ ((PlnD n x ∧ PlnD n y ∧ q (.bl (eqB x y)) cs) ∨ ∃ a b : Bool, x = .bl a ∧ y = .bl b ∧ q (.bl (a == b)) cs)
theorem no__law_same {cs : List Cell} {q : D → List Cell → Prop} {e : Xn → List Cell → Prop} (h : fs__law_same K 0 cs q e) : False := by
  obtain ⟨_, _, _, h, _⟩ := h
  exact h rfl
theorem l1__law_same_ok {n : Nat} {xs ys : List D} {c : Cell} {E : EndsD} (hx : ∀ d ∈ xs, PlnD n d) (hy : ∀ d ∈ ys, PlnD n d) (hl : xs.length = ys.length) (h1 : ys.length ≤ 1000)
    (hr : PyData.eqvAll (xs.map pyD) (ys.map pyD) = false → ∀ c, E.rt (.bl false) [.dat (.tup xs), .dat (.tup ys), c]) (hn : PyData.eqvAll (xs.map pyD) (ys.map pyD) = true → ∀ c, E.nx [.dat (.tup xs), .dat (.tup ys), c]) :
    l1__law_same K (fs__law_same K n) E [.dat (.tup xs), .dat (.tup ys), c] := by
  unfold l1__law_same wFor
  refine ⟨.tup ys, rfl, .tup ys, ys, rfl, rfl, _, rfl, by omega, by omega, fun i τ => (∃ c, τ = [.dat (.tup xs), .dat (.tup ys), c]) ∧ ∀ (j : Nat) x y, j < i → xs[j]? = some x → ys[j]? = some y → eqB x y = true, ⟨⟨c, rfl⟩, fun j _ _ h => absurd h (by omega)⟩, ?_, ?_⟩
  · rintro i x τ2 hi ⟨⟨c, rfl⟩, ha⟩
    have hlt : i < ys.length := by
      have := (List.getElem?_eq_some_iff.mp hi).1
      rw [rangeD_length] at this
      omega
    rw [rangeD_get (by omega)] at hi
    cases hi
    have z0 : (0 : Int) + (i : Nat) = ((i : Nat) : Int) := by omega
    have e1 : xs[i]? = some xs[i] := List.getElem?_eq_getElem (by omega)
    have e2 : ys[i]? = some ys[i] := List.getElem?_eq_getElem hlt
    have f1 : atI xs ((i : Nat) : Int) = some xs[i] := atI_nat' e1
    have f2 : atI ys ((i : Nat) : Int) = some ys[i] := atI_nat' e2
    rw [z0]
    simp only [fs__law_same, f1, f2, seqD_t, wListRg1, wListRg2, wRngDown, wZipK, gInL, gNotInT, wCatOwn, gIsB, gNotB, D.adr.injEq, Cont.pool.injEq, ixN31, ne_eq, List.map_cons, List.map_nil, wPoolOpen, wPoolClose, wPop0, wPopTo, wListOwn, wRemove, wRaise0, wRaise1, wAugOwn, wEnumL, wTru, wSlA, gCatA, gLtT, gLeT, wFrz, wChain3, wAttr, wMkF, wEnumT, wRevT, wDict0, wDict1, numD3, Nat.reduceAdd, atI0, atI1, atI2, atI3, atI4, ixN51, ixN52, ixN53, List.length_map, wNever, scal, V.int.injEq, V.str.injEq, V.bl.injEq, wSq, wNext, wBreak, wCont, wDrop, wRet, wRetN, wIfS, wAsg, wPar, wLstOwn, wAppend, wSetOwn, wIxOwn, wPeek, wRetOwn, wRetFr, wFor, wB, wNot, wAnd, wOr, wAndV, wOrV, wNotV, wIf, wChain, wNil, wCons, wCB, wTup, wLst, wNoPart, wPart, wSlT, wSlL, wSeq, wRng1, wRng2, wZip, wName, wNilT, wConsT, wTupT, wYes, wNeg, wVar, wC, wOp, wcNil, wcCons, wcOwn, wCall, wCallOwn, slots, cellsOf, OwnArgs, putBack, g2I, g2IC, gLen, gAbs, gGcd, gInt1, gTupleOf, gListOf, gIx, gCatT, gCat, gEq, gNe, gIsN, gNotN, scD, seqD_t, seqD_l, seqD_f, isNonD, List.nodup_cons, List.mem_cons, List.not_mem_nil, or_false, not_false_eq_true, Nat.reduceEqDiff, L3.Keeps, ends, wipeD, List.replicate, List.cons_append, List.nil_append, List.append_nil, List.getElem?_cons_zero, List.getElem?_cons_succ, List.set_cons_zero, List.set_cons_succ, List.getD_cons_zero, List.getD_cons_succ, List.length_cons, List.length_nil, List.nodup_nil, Option.some.injEq, Cell.dat.injEq, Cell.own.injEq, Cont.lst.injEq, D.bl.injEq, D.int.injEq, D.str.injEq, D.tup.injEq, D.lst.injEq, Arg.d.injEq, List.cons.injEq, exists_and_left, exists_and_right, exists_eq_left', exists_eq_left, exists_eq_right, exists_eq_right', exists_eq, exists_eq', and_true, true_and, and_assoc, and_self, exists_const, reduceCtorEq]
    have hn0 : n ≠ 0 := fun z => by
      subst z
      exact hy _ (List.getElem_mem hlt)
    refine ⟨hn0, .inl ⟨hx _ (List.getElem_mem _), hy _ (List.getElem_mem _), fun z => hr (eqvAll_false e1 e2 (by simpa using z)) _, fun z j a b hj h2 h3 => ?_⟩⟩
    rcases Nat.lt_or_ge j i with hji | hji
    · exact ha j a b hji h2 h3
    · have : j = i := by omega
      subst this
      rw [e1] at h2
      rw [e2] at h3
      cases h2
      cases h3
      simpa using z
  · rintro τ2 ⟨⟨c, rfl⟩, ha⟩
    rw [rangeD_length] at ha
    exact hn (eqvAll_true hl fun j x y h1 h2 => ha j x y (by have := (List.getElem?_eq_some_iff.mp h2).1; omega) h1 h2) c
theorem pure__law_same {n : Nat} : PureD 2 1 (fs__law_same K (n + 1)) (w__law_same K (fs__law_same K n)) := by
  rintro cs q e - ⟨x, y, rfl, _, (⟨hx, hy, hq⟩ | ⟨a, b, rfl, rfl, hq⟩)⟩
  · have okx : OkD K x := sameD_ok (pln_same hx)
    have oky : OkD K y := sameD_ok (pln_same hy)
    rcases pln_cases hx with ⟨i, rfl⟩ | ⟨xs, rfl, lx, px⟩ <;> rcases pln_cases hy with ⟨j, rfl⟩ | ⟨ys, rfl, ly, py⟩
    · simp only [w__law_same, gIsi_iff oky (show "int" ∈ kinds by simp), gIsi_iff oky (show "bool" ∈ kinds by simp), gIsi_iff okx (show "int" ∈ kinds by simp), gIsi_iff okx (show "bool" ∈ kinds by simp), isiD, wListRg1, wListRg2, wRngDown, wZipK, gInL, gNotInT, wCatOwn, gIsB, gNotB, D.adr.injEq, Cont.pool.injEq, ixN31, ne_eq, List.map_cons, List.map_nil, wPoolOpen, wPoolClose, wPop0, wPopTo, wListOwn, wRemove, wRaise0, wRaise1, wAugOwn, wEnumL, wTru, wSlA, gCatA, gLtT, gLeT, wFrz, wChain3, wAttr, wMkF, wEnumT, wRevT, wDict0, wDict1, numD3, Nat.reduceAdd, atI0, atI1, atI2, atI3, atI4, ixN51, ixN52, ixN53, List.length_map, wNever, scal, V.int.injEq, V.str.injEq, V.bl.injEq, wSq, wNext, wBreak, wCont, wDrop, wRet, wRetN, wIfS, wAsg, wPar, wLstOwn, wAppend, wSetOwn, wIxOwn, wPeek, wRetOwn, wRetFr, wFor, wB, wNot, wAnd, wOr, wAndV, wOrV, wNotV, wIf, wChain, wNil, wCons, wCB, wTup, wLst, wNoPart, wPart, wSlT, wSlL, wSeq, wRng1, wRng2, wZip, wName, wNilT, wConsT, wTupT, wYes, wNeg, wVar, wC, wOp, wcNil, wcCons, wcOwn, wCall, wCallOwn, slots, cellsOf, OwnArgs, putBack, g2I, g2IC, gLen, gAbs, gGcd, gInt1, gTupleOf, gListOf, gIx, gCatT, gCat, gEq, gNe, gIsN, gNotN, scD, seqD_t, seqD_l, seqD_f, isNonD, List.nodup_cons, List.mem_cons, List.not_mem_nil, or_false, not_false_eq_true, Nat.reduceEqDiff, L3.Keeps, ends, wipeD, List.replicate, List.cons_append, List.nil_append, List.append_nil, List.getElem?_cons_zero, List.getElem?_cons_succ, List.set_cons_zero, List.set_cons_succ, List.getD_cons_zero, List.getD_cons_succ, List.length_cons, List.length_nil, List.nodup_nil, Option.some.injEq, Cell.dat.injEq, Cell.own.injEq, Cont.lst.injEq, D.bl.injEq, D.int.injEq, D.str.injEq, D.tup.injEq, D.lst.injEq, Arg.d.injEq, List.cons.injEq, exists_and_left, exists_and_right, exists_eq_left', exists_eq_left, exists_eq_right, exists_eq_right', exists_eq, exists_eq', and_true, true_and, and_assoc, and_self, exists_const, reduceCtorEq]
      simp
      exact gEqD_of (n := 1) (m := 1) trivial trivial (by decide) (by decide) hq
    · have ef : eqB (.int i) (.tup ys) = false := by
        unfold eqB
        rw [py_tup py]
        simp [pyD, toPy, PyData.eqv]
      rw [ef] at hq
      simp only [w__law_same, gIsi_iff oky (show "int" ∈ kinds by simp), gIsi_iff oky (show "bool" ∈ kinds by simp), gIsi_iff oky (show "str" ∈ kinds by simp), gIsi_iff oky (show "tuple" ∈ kinds by simp), gIsi_iff okx (show "tuple" ∈ kinds by simp), isiD, wListRg1, wListRg2, wRngDown, wZipK, gInL, gNotInT, wCatOwn, gIsB, gNotB, D.adr.injEq, Cont.pool.injEq, ixN31, ne_eq, List.map_cons, List.map_nil, wPoolOpen, wPoolClose, wPop0, wPopTo, wListOwn, wRemove, wRaise0, wRaise1, wAugOwn, wEnumL, wTru, wSlA, gCatA, gLtT, gLeT, wFrz, wChain3, wAttr, wMkF, wEnumT, wRevT, wDict0, wDict1, numD3, Nat.reduceAdd, atI0, atI1, atI2, atI3, atI4, ixN51, ixN52, ixN53, List.length_map, wNever, scal, V.int.injEq, V.str.injEq, V.bl.injEq, wSq, wNext, wBreak, wCont, wDrop, wRet, wRetN, wIfS, wAsg, wPar, wLstOwn, wAppend, wSetOwn, wIxOwn, wPeek, wRetOwn, wRetFr, wFor, wB, wNot, wAnd, wOr, wAndV, wOrV, wNotV, wIf, wChain, wNil, wCons, wCB, wTup, wLst, wNoPart, wPart, wSlT, wSlL, wSeq, wRng1, wRng2, wZip, wName, wNilT, wConsT, wTupT, wYes, wNeg, wVar, wC, wOp, wcNil, wcCons, wcOwn, wCall, wCallOwn, slots, cellsOf, OwnArgs, putBack, g2I, g2IC, gLen, gAbs, gGcd, gInt1, gTupleOf, gListOf, gIx, gCatT, gCat, gEq, gNe, gIsN, gNotN, scD, seqD_t, seqD_l, seqD_f, isNonD, List.nodup_cons, List.mem_cons, List.not_mem_nil, or_false, not_false_eq_true, Nat.reduceEqDiff, L3.Keeps, ends, wipeD, List.replicate, List.cons_append, List.nil_append, List.append_nil, List.getElem?_cons_zero, List.getElem?_cons_succ, List.set_cons_zero, List.set_cons_succ, List.getD_cons_zero, List.getD_cons_succ, List.length_cons, List.length_nil, List.nodup_nil, Option.some.injEq, Cell.dat.injEq, Cell.own.injEq, Cont.lst.injEq, D.bl.injEq, D.int.injEq, D.str.injEq, D.tup.injEq, D.lst.injEq, Arg.d.injEq, List.cons.injEq, exists_and_left, exists_and_right, exists_eq_left', exists_eq_left, exists_eq_right, exists_eq_right', exists_eq, exists_eq', and_true, true_and, and_assoc, and_self, exists_const, reduceCtorEq]
      simp
      exact hq
    · have ef : eqB (.tup xs) (.int j) = false := by
        unfold eqB
        rw [py_tup px]
        simp [pyD, toPy, PyData.eqv]
      rw [ef] at hq
      simp only [w__law_same, gIsi_iff oky (show "int" ∈ kinds by simp), gIsi_iff oky (show "bool" ∈ kinds by simp), gIsi_iff okx (show "int" ∈ kinds by simp), isiD, wListRg1, wListRg2, wRngDown, wZipK, gInL, gNotInT, wCatOwn, gIsB, gNotB, D.adr.injEq, Cont.pool.injEq, ixN31, ne_eq, List.map_cons, List.map_nil, wPoolOpen, wPoolClose, wPop0, wPopTo, wListOwn, wRemove, wRaise0, wRaise1, wAugOwn, wEnumL, wTru, wSlA, gCatA, gLtT, gLeT, wFrz, wChain3, wAttr, wMkF, wEnumT, wRevT, wDict0, wDict1, numD3, Nat.reduceAdd, atI0, atI1, atI2, atI3, atI4, ixN51, ixN52, ixN53, List.length_map, wNever, scal, V.int.injEq, V.str.injEq, V.bl.injEq, wSq, wNext, wBreak, wCont, wDrop, wRet, wRetN, wIfS, wAsg, wPar, wLstOwn, wAppend, wSetOwn, wIxOwn, wPeek, wRetOwn, wRetFr, wFor, wB, wNot, wAnd, wOr, wAndV, wOrV, wNotV, wIf, wChain, wNil, wCons, wCB, wTup, wLst, wNoPart, wPart, wSlT, wSlL, wSeq, wRng1, wRng2, wZip, wName, wNilT, wConsT, wTupT, wYes, wNeg, wVar, wC, wOp, wcNil, wcCons, wcOwn, wCall, wCallOwn, slots, cellsOf, OwnArgs, putBack, g2I, g2IC, gLen, gAbs, gGcd, gInt1, gTupleOf, gListOf, gIx, gCatT, gCat, gEq, gNe, gIsN, gNotN, scD, seqD_t, seqD_l, seqD_f, isNonD, List.nodup_cons, List.mem_cons, List.not_mem_nil, or_false, not_false_eq_true, Nat.reduceEqDiff, L3.Keeps, ends, wipeD, List.replicate, List.cons_append, List.nil_append, List.append_nil, List.getElem?_cons_zero, List.getElem?_cons_succ, List.set_cons_zero, List.set_cons_succ, List.getD_cons_zero, List.getD_cons_succ, List.length_cons, List.length_nil, List.nodup_nil, Option.some.injEq, Cell.dat.injEq, Cell.own.injEq, Cont.lst.injEq, D.bl.injEq, D.int.injEq, D.str.injEq, D.tup.injEq, D.lst.injEq, Arg.d.injEq, List.cons.injEq, exists_and_left, exists_and_right, exists_eq_left', exists_eq_left, exists_eq_right, exists_eq_right', exists_eq, exists_eq', and_true, true_and, and_assoc, and_self, exists_const, reduceCtorEq]
      simp
      exact hq
    · have ee : eqB (.tup xs) (.tup ys) = PyData.eqvAll (xs.map pyD) (ys.map pyD) := by
        unfold eqB
        rw [py_tup px, py_tup py]
        simp [PyData.eqv]
      rw [ee] at hq
      simp only [w__law_same, gIsi_iff oky (show "int" ∈ kinds by simp), gIsi_iff oky (show "bool" ∈ kinds by simp), gIsi_iff oky (show "str" ∈ kinds by simp), gIsi_iff oky (show "tuple" ∈ kinds by simp), gIsi_iff oky (show "list" ∈ kinds by simp), gIsi_iff okx (show "tuple" ∈ kinds by simp), isiD, seqD_t, wListRg1, wListRg2, wRngDown, wZipK, gInL, gNotInT, wCatOwn, gIsB, gNotB, D.adr.injEq, Cont.pool.injEq, ixN31, ne_eq, List.map_cons, List.map_nil, wPoolOpen, wPoolClose, wPop0, wPopTo, wListOwn, wRemove, wRaise0, wRaise1, wAugOwn, wEnumL, wTru, wSlA, gCatA, gLtT, gLeT, wFrz, wChain3, wAttr, wMkF, wEnumT, wRevT, wDict0, wDict1, numD3, Nat.reduceAdd, atI0, atI1, atI2, atI3, atI4, ixN51, ixN52, ixN53, List.length_map, wNever, scal, V.int.injEq, V.str.injEq, V.bl.injEq, wSq, wNext, wBreak, wCont, wDrop, wRet, wRetN, wIfS, wAsg, wPar, wLstOwn, wAppend, wSetOwn, wIxOwn, wPeek, wRetOwn, wRetFr, wFor, wB, wNot, wAnd, wOr, wAndV, wOrV, wNotV, wIf, wChain, wNil, wCons, wCB, wTup, wLst, wNoPart, wPart, wSlT, wSlL, wSeq, wRng1, wRng2, wZip, wName, wNilT, wConsT, wTupT, wYes, wNeg, wVar, wC, wOp, wcNil, wcCons, wcOwn, wCall, wCallOwn, slots, cellsOf, OwnArgs, putBack, g2I, g2IC, gLen, gAbs, gGcd, gInt1, gTupleOf, gListOf, gIx, gCatT, gCat, gEq, gNe, gIsN, gNotN, scD, seqD_t, seqD_l, seqD_f, isNonD, List.nodup_cons, List.mem_cons, List.not_mem_nil, or_false, not_false_eq_true, Nat.reduceEqDiff, L3.Keeps, ends, wipeD, List.replicate, List.cons_append, List.nil_append, List.append_nil, List.getElem?_cons_zero, List.getElem?_cons_succ, List.set_cons_zero, List.set_cons_succ, List.getD_cons_zero, List.getD_cons_succ, List.length_cons, List.length_nil, List.nodup_nil, Option.some.injEq, Cell.dat.injEq, Cell.own.injEq, Cont.lst.injEq, D.bl.injEq, D.int.injEq, D.str.injEq, D.tup.injEq, D.lst.injEq, Arg.d.injEq, List.cons.injEq, exists_and_left, exists_and_right, exists_eq_left', exists_eq_left, exists_eq_right, exists_eq_right', exists_eq, exists_eq', and_true, true_and, and_assoc, and_self, exists_const, reduceCtorEq]
      simp
      refine ⟨fun z => ?_, fun z => l1__law_same_ok px py (by omega) ly (fun zf c => ⟨trivial, ?_⟩) fun zt c => ⟨trivial, ?_⟩⟩
      · have ef : PyData.eqvAll (xs.map pyD) (ys.map pyD) = false := eqvAll_len fun zz => z (by rw [List.length_map, List.length_map] at zz; omega)
        rw [ef] at hq
        exact hq
      · rw [zf] at hq
        exact hq
      · rw [zt] at hq
        exact hq
  · have oka : OkD K (.bl a) := by unfold OkD; trivial
    have okb : OkD K (.bl b) := by unfold OkD; trivial
    simp only [w__law_same, gIsi_iff okb (show "bool" ∈ kinds by simp), gIsi_iff oka (show "bool" ∈ kinds by simp), isiD, wListRg1, wListRg2, wRngDown, wZipK, gInL, gNotInT, wCatOwn, gIsB, gNotB, D.adr.injEq, Cont.pool.injEq, ixN31, ne_eq, List.map_cons, List.map_nil, wPoolOpen, wPoolClose, wPop0, wPopTo, wListOwn, wRemove, wRaise0, wRaise1, wAugOwn, wEnumL, wTru, wSlA, gCatA, gLtT, gLeT, wFrz, wChain3, wAttr, wMkF, wEnumT, wRevT, wDict0, wDict1, numD3, Nat.reduceAdd, atI0, atI1, atI2, atI3, atI4, ixN51, ixN52, ixN53, List.length_map, wNever, scal, V.int.injEq, V.str.injEq, V.bl.injEq, wSq, wNext, wBreak, wCont, wDrop, wRet, wRetN, wIfS, wAsg, wPar, wLstOwn, wAppend, wSetOwn, wIxOwn, wPeek, wRetOwn, wRetFr, wFor, wB, wNot, wAnd, wOr, wAndV, wOrV, wNotV, wIf, wChain, wNil, wCons, wCB, wTup, wLst, wNoPart, wPart, wSlT, wSlL, wSeq, wRng1, wRng2, wZip, wName, wNilT, wConsT, wTupT, wYes, wNeg, wVar, wC, wOp, wcNil, wcCons, wcOwn, wCall, wCallOwn, slots, cellsOf, OwnArgs, putBack, g2I, g2IC, gLen, gAbs, gGcd, gInt1, gTupleOf, gListOf, gIx, gCatT, gCat, gEq, gNe, gIsN, gNotN, scD, seqD_t, seqD_l, seqD_f, isNonD, List.nodup_cons, List.mem_cons, List.not_mem_nil, or_false, not_false_eq_true, Nat.reduceEqDiff, L3.Keeps, ends, wipeD, List.replicate, List.cons_append, List.nil_append, List.append_nil, List.getElem?_cons_zero, List.getElem?_cons_succ, List.set_cons_zero, List.set_cons_succ, List.getD_cons_zero, List.getD_cons_succ, List.length_cons, List.length_nil, List.nodup_nil, Option.some.injEq, Cell.dat.injEq, Cell.own.injEq, Cont.lst.injEq, D.bl.injEq, D.int.injEq, D.str.injEq, D.tup.injEq, D.lst.injEq, Arg.d.injEq, List.cons.injEq, exists_and_left, exists_and_right, exists_eq_left', exists_eq_left, exists_eq_right, exists_eq_right', exists_eq, exists_eq', and_true, true_and, and_assoc, and_self, exists_const, reduceCtorEq]
    simp
    exact gEqD_of (n := 1) (m := 1) trivial trivial (by decide) (by decide) hq
theorem ok__law_same (T : Txt K mg) : ∀ n, FnOk P w K mg base (L2.CX P w) n T.f__law_same T.fd__law_same ["actual", "expected"] (spOf K 2 (fs__law_same K n))
  | 0 => ⟨fun vs H Q E h => h.1, fun A outer s H args us vs Q E _ _ _ _ ⟨_, _, _, _, _, _, h, _⟩ => (no__law_same h).elim⟩
  | n + 1 => by
    have ih := ok__law_same T n
    refine def_ok T.F__law_same sc__law_same (wb := w__law_same K (fs__law_same K n)) pure__law_same ?_
    intro cdv A outer s H E hr tk
    exact ⟨_, (pss_cons (ps_if (pt_cmpR op_isN (pv 1) pe_non (nomark _))
        (pss_one (ps_ret (pe_cmpR op_isN (pv 0) pe_non (nomark _))))
        pss_nil)
      (pss_cons (ps_if (pt_val (pe_callB call_isi (by rfl) T.z_isinstance (by decide +kernel) (pa_cons (pv 1) (pa_cons (pe_bltn (v := .ty "bool") (by rfl) T.z_bool (by decide +kernel) rfl) pa_nil))))
        (pss_one (ps_ret (pe_and (pe_callB call_isi (by rfl) T.z_isinstance (by decide +kernel) (pa_cons (pv 0) (pa_cons (pe_bltn (v := .ty "bool") (by rfl) T.z_bool (by decide +kernel) rfl) pa_nil))) (pe_one (pe_cmpR (op_eqD hr.units) (pv 0) (pv 1) (nomark _))))))
        pss_nil)
      (pss_cons (ps_if (pt_val (pe_callB call_isi (by rfl) T.z_isinstance (by decide +kernel) (pa_cons (pv 1) (pa_cons (pe_bltn (v := .ty "int") (by rfl) T.z_int (by decide +kernel) rfl) pa_nil))))
        (pss_one (ps_ret (pe_and (pe_callB call_isi (by rfl) T.z_isinstance (by decide +kernel) (pa_cons (pv 0) (pa_cons (pe_bltn (v := .ty "int") (by rfl) T.z_int (by decide +kernel) rfl) pa_nil))) (pe_and (pe_not (pe_callB call_isi (by rfl) T.z_isinstance (by decide +kernel) (pa_cons (pv 0) (pa_cons (pe_bltn (v := .ty "bool") (by rfl) T.z_bool (by decide +kernel) rfl) pa_nil)))) (pe_one (pe_cmpR (op_eqD hr.units) (pv 0) (pv 1) (nomark _)))))))
        pss_nil)
      (pss_cons (ps_if (pt_val (pe_callB call_isi (by rfl) T.z_isinstance (by decide +kernel) (pa_cons (pv 1) (pa_cons (pe_bltn (v := .ty "str") (by rfl) T.z_str (by decide +kernel) rfl) pa_nil))))
        (pss_one (ps_ret (pe_and (pe_callB call_isi (by rfl) T.z_isinstance (by decide +kernel) (pa_cons (pv 0) (pa_cons (pe_bltn (v := .ty "str") (by rfl) T.z_str (by decide +kernel) rfl) pa_nil))) (pe_one (pe_cmpR (op_eqD hr.units) (pv 0) (pv 1) (nomark _))))))
        pss_nil)
      (pss_cons (ps_if (PW.pt (pw_and (pt_val (pe_callB call_isi (by rfl) T.z_isinstance (by decide +kernel) (pa_cons (pv 1) (pa_cons (pe_bltn (v := .ty "tuple") (by rfl) T.z_tuple (by decide +kernel) rfl) pa_nil)))) (pw_and1 (pt_not (pt_val (pe_callB call_isi (by rfl) T.z_isinstance (by decide +kernel) (pa_cons (pv 0) (pa_cons (pe_bltn (v := .ty "tuple") (by rfl) T.z_tuple (by decide +kernel) rfl) pa_nil))))))))
        (pss_one (ps_ret pe_bl))
        pss_nil)
      (pss_cons (ps_if (PW.pt (pw_and (pt_val (pe_callB call_isi (by rfl) T.z_isinstance (by decide +kernel) (pa_cons (pv 1) (pa_cons (pe_bltn (v := .ty "list") (by rfl) T.z_list (by decide +kernel) rfl) pa_nil)))) (pw_and1 (pt_not (pt_val (pe_callB call_isi (by rfl) T.z_isinstance (by decide +kernel) (pa_cons (pv 0) (pa_cons (pe_bltn (v := .ty "list") (by rfl) T.z_list (by decide +kernel) rfl) pa_nil))))))))
        (pss_one (ps_ret pe_bl))
        pss_nil)
      (pss_cons (ps_if (pt_cmpR op_ne (pe_callB call_len_seq (by rfl) T.z_len (by decide +kernel) (pa_cons (pv 0) pa_nil)) (pe_callB call_len_seq (by rfl) T.z_len (by decide +kernel) (pa_cons (pv 1) pa_nil)) (nomark _))
        (pss_one (ps_ret pe_bl))
        pss_nil)
      (pss_cons (ps_for (passes_of rfl) rfl (pi_range1 (by rfl) T.z_range (pa_cons (pe_callB call_len_seq (by rfl) T.z_len (by decide +kernel) (pa_cons (pv 1) pa_nil)) pa_nil)) (pg_name (i := 2) sc__law_same.nd rfl (by first | exact Or.inl rfl | exact Or.inr rfl))
        (pss_one (ps_if (pt_not (pt_val (pe_callS ih hr rfl T.g__law_same T.k__law_same T.b__law_same (fun σ => passAt tk σ) (pa_cons (pe_ix ix_seq (pv 0) (pv 2) (fun _ _ => rfl)) (pa_cons (pe_ix ix_seq (pv 1) (pv 2) (fun _ _ => rfl)) pa_nil)))))
        (pss_one (ps_ret pe_bl))
        pss_nil)))
      (pss_one (ps_ret pe_bl)))))))))),
      (ds_seq (ds_if (dt_B (de_op o_isN (de_var 1) de_non)) (ds_ret (de_op o_isN (de_var 0) de_non)) ds_nil)
      (ds_seq (ds_if (dt_B (de_cb o_isi (da_cons (de_var 1) (da_cons de_ty da_nil)))) (ds_ret (de_and (de_cb o_isi (da_cons (de_var 0) (da_cons de_ty da_nil))) (de_op o_eqD (de_var 0) (de_var 1)))) ds_nil)
      (ds_seq (ds_if (dt_B (de_cb o_isi (da_cons (de_var 1) (da_cons de_ty da_nil)))) (ds_ret (de_and (de_cb o_isi (da_cons (de_var 0) (da_cons de_ty da_nil))) (de_and (de_not (de_cb o_isi (da_cons (de_var 0) (da_cons de_ty da_nil)))) (de_op o_eqD (de_var 0) (de_var 1))))) ds_nil)
      (ds_seq (ds_if (dt_B (de_cb o_isi (da_cons (de_var 1) (da_cons de_ty da_nil)))) (ds_ret (de_and (de_cb o_isi (da_cons (de_var 0) (da_cons de_ty da_nil))) (de_op o_eqD (de_var 0) (de_var 1)))) ds_nil)
      (ds_seq (ds_if (dt_and (dt_B (de_cb o_isi (da_cons (de_var 1) (da_cons de_ty da_nil)))) (dt_not (dt_B (de_cb o_isi (da_cons (de_var 0) (da_cons de_ty da_nil)))))) (ds_ret de_bl) ds_nil)
      (ds_seq (ds_if (dt_and (dt_B (de_cb o_isi (da_cons (de_var 1) (da_cons de_ty da_nil)))) (dt_not (dt_B (de_cb o_isi (da_cons (de_var 0) (da_cons de_ty da_nil)))))) (ds_ret de_bl) ds_nil)
      (ds_seq (ds_if (dt_B (de_op o_ne (de_cb o_len (da_cons (de_var 0) da_nil)) (de_cb o_len (da_cons (de_var 1) da_nil)))) (ds_ret de_bl) ds_nil)
      (ds_seq (ds_for (wI := (wRng1 (wCons (wCB gLen (wCons (wVar 1) wNil)) wNil))) (wg := (wName 2)) (wb := (wIfS (wNot (wB (wCall 2 (fs__law_same K n) (wcCons (wOp gIx (wVar 0) (wVar 2)) (wcCons (wOp gIx (wVar 1) (wVar 2)) wcNil))))) (wRet (wC (.bl false))) wNext)) (di_rng1 (da_cons (de_cb o_len (da_cons (de_var 1) da_nil)) da_nil)) (dg_name 2) (ds_if (dt_not (dt_B (de_call (n := 2) (fs := fs__law_same K n) (dac_cons (de_op o_ix (de_var 0) (de_var 2)) (dac_cons (de_op o_ix (de_var 1) (de_var 2)) dac_nil))))) (ds_ret de_bl) ds_nil))
      (ds_ret de_bl)))))))))⟩
abbrev s__law_in_order : Stmt := topS 43
theorem sc__law_in_order : FnScope ["steps", "pairs", "one", "pair"] ["steps"] (defScope s__law_in_order) := ⟨rfl, rfl, rfl, by decide +kernel, rfl, by decide +kernel, by decide +kernel⟩
def c1__law_in_order (K : PySem.W.Frag) : EW := wLc (wSeq (wVar 0)) (wName 2) wYes (wTup (wCons (wOp gDivW (wOp gMulA (wOp gIx (wVar 2) (wC (.int 0))) (wOp gPowI (wC (.int 10)) (wC (.int 6)))) (wOp gIx (wVar 2) (wC (.int 1)))) (wCons (wVar 2) wNil))) [2]
def c2__law_in_order (K : PySem.W.Frag) : EW := wLc (wSeq (wVar 1)) (wName 3) wYes (wOp gIx (wVar 3) (wC (.int 1))) [3]
def w__law_in_order (K : PySem.W.Frag) : SW := (wSq (wAsg (wCB gSort (wCons (c1__law_in_order K) wNil)) (wName 1))
  (wRet (wCB gTupleOf (wCons (c2__law_in_order K) wNil))))
def keyP : D → D | .tup [.int t, .int b] => .tup [.int (t * 1000000 / b), .tup [.int t, .int b]] | _ => .non
def sndP : D → D | .tup [_, y] => y | d => d
def fs__law_in_order (K : PySem.W.Frag) : FS := fun cs q _ => ∃ (es : List D), cs = [.dat (.lst es)] ∧ es.length ≤ 100 ∧ (∀ d ∈ es, isTh d = true) ∧ ∀ gs, gs.length = es.length → (∀ d ∈ gs, d ∈ es) → ascP gs = true → q (.tup gs) cs
theorem c1__law_in_order_ok {es : List D} {c2 c3 c4 : Cell} {q : D → List Cell → Prop} {e : Xn → List Cell → Prop} (hn : es.length ≤ 100) (hs : ∀ d ∈ es, isTh d = true)
    (hq : ∀ c2, q (.lst (es.map keyP)) [.dat (.lst es), c2, .any, c4]) : c1__law_in_order K [.dat (.lst es), c2, c3, c4] q e := by
  unfold c1__law_in_order wLc
  refine ⟨_, rfl, es, rfl, lc_fm keyP (fun _ => true) (by omega) (fun d hm k1 k2 h1 _ => ?_) (by rw [filter_true]; exact hq _)⟩
  obtain ⟨t, b, rfl, h2, h3, h4, h5⟩ := th_shape (hs d hm)
  simp only [pow6, wListRg1, wListRg2, wRngDown, wZipK, gInL, gNotInT, wCatOwn, gIsB, gNotB, D.adr.injEq, Cont.pool.injEq, ixN31, ne_eq, List.map_cons, List.map_nil, wPoolOpen, wPoolClose, wPop0, wPopTo, wListOwn, wRemove, wRaise0, wRaise1, wAugOwn, wEnumL, wTru, wSlA, gCatA, gLtT, gLeT, wFrz, wChain3, wAttr, wMkF, wEnumT, wRevT, wDict0, wDict1, numD3, Nat.reduceAdd, atI0, atI1, atI2, atI3, atI4, ixN51, ixN52, ixN53, List.length_map, wNever, scal, V.int.injEq, V.str.injEq, V.bl.injEq, wSq, wNext, wBreak, wCont, wDrop, wRet, wRetN, wIfS, wAsg, wPar, wLstOwn, wAppend, wSetOwn, wIxOwn, wPeek, wRetOwn, wRetFr, wFor, wB, wNot, wAnd, wOr, wAndV, wOrV, wNotV, wIf, wChain, wNil, wCons, wCB, wTup, wLst, wNoPart, wPart, wSlT, wSlL, wSeq, wRng1, wRng2, wZip, wName, wNilT, wConsT, wTupT, wYes, wNeg, wVar, wC, wOp, wcNil, wcCons, wcOwn, wCall, wCallOwn, slots, cellsOf, OwnArgs, putBack, g2I, g2IC, gLen, gAbs, gGcd, gInt1, gTupleOf, gListOf, gIx, gCatT, gCat, gEq, gNe, gIsN, gNotN, scD, seqD_t, seqD_l, seqD_f, isNonD, List.nodup_cons, List.mem_cons, List.not_mem_nil, or_false, not_false_eq_true, Nat.reduceEqDiff, L3.Keeps, ends, wipeD, List.replicate, List.cons_append, List.nil_append, List.append_nil, List.getElem?_cons_zero, List.getElem?_cons_succ, List.set_cons_zero, List.set_cons_succ, List.getD_cons_zero, List.getD_cons_succ, List.length_cons, List.length_nil, List.nodup_nil, Option.some.injEq, Cell.dat.injEq, Cell.own.injEq, Cont.lst.injEq, D.bl.injEq, D.int.injEq, D.str.injEq, D.tup.injEq, D.lst.injEq, Arg.d.injEq, List.cons.injEq, exists_and_left, exists_and_right, exists_eq_left', exists_eq_left, exists_eq_right, exists_eq_right', exists_eq, exists_eq', and_true, true_and, and_assoc, and_self, exists_const, reduceCtorEq]
  simp only [true_implies]
  have cp : CPow 10 6 := ⟨by decide, by decide, by decide⟩
  refine ⟨⟨cp, cmul_r (by decide) (by decide), ?_, by decide, h1 rfl _ rfl⟩, fun z => z.elim⟩
  exact wide_div (by omega) (b := 40) (by omega) (by decide) (by decide)
theorem c2__law_in_order_ok {es : List D} {c1 c3 c4 : Cell} {q : D → List Cell → Prop} {e : Xn → List Cell → Prop} (hn : es.length ≤ 100) (hs : ∀ d ∈ es, ∃ x y, d = .tup [x, y])
    (hq : q (.lst (es.map sndP)) [c1, .dat (.lst es), c3, .any]) : c2__law_in_order K [c1, .dat (.lst es), c3, c4] q e := by
  unfold c2__law_in_order wLc
  refine ⟨_, rfl, es, rfl, lc_fm sndP (fun _ => true) (by omega) (fun d hm k1 k2 h1 _ => ?_) (by rw [filter_true]; exact hq)⟩
  obtain ⟨x, y, rfl⟩ := hs d hm
  simp only [wListRg1, wListRg2, wRngDown, wZipK, gInL, gNotInT, wCatOwn, gIsB, gNotB, D.adr.injEq, Cont.pool.injEq, ixN31, ne_eq, List.map_cons, List.map_nil, wPoolOpen, wPoolClose, wPop0, wPopTo, wListOwn, wRemove, wRaise0, wRaise1, wAugOwn, wEnumL, wTru, wSlA, gCatA, gLtT, gLeT, wFrz, wChain3, wAttr, wMkF, wEnumT, wRevT, wDict0, wDict1, numD3, Nat.reduceAdd, atI0, atI1, atI2, atI3, atI4, ixN51, ixN52, ixN53, List.length_map, wNever, scal, V.int.injEq, V.str.injEq, V.bl.injEq, wSq, wNext, wBreak, wCont, wDrop, wRet, wRetN, wIfS, wAsg, wPar, wLstOwn, wAppend, wSetOwn, wIxOwn, wPeek, wRetOwn, wRetFr, wFor, wB, wNot, wAnd, wOr, wAndV, wOrV, wNotV, wIf, wChain, wNil, wCons, wCB, wTup, wLst, wNoPart, wPart, wSlT, wSlL, wSeq, wRng1, wRng2, wZip, wName, wNilT, wConsT, wTupT, wYes, wNeg, wVar, wC, wOp, wcNil, wcCons, wcOwn, wCall, wCallOwn, slots, cellsOf, OwnArgs, putBack, g2I, g2IC, gLen, gAbs, gGcd, gInt1, gTupleOf, gListOf, gIx, gCatT, gCat, gEq, gNe, gIsN, gNotN, scD, seqD_t, seqD_l, seqD_f, isNonD, List.nodup_cons, List.mem_cons, List.not_mem_nil, or_false, not_false_eq_true, Nat.reduceEqDiff, L3.Keeps, ends, wipeD, List.replicate, List.cons_append, List.nil_append, List.append_nil, List.getElem?_cons_zero, List.getElem?_cons_succ, List.set_cons_zero, List.set_cons_succ, List.getD_cons_zero, List.getD_cons_succ, List.length_cons, List.length_nil, List.nodup_nil, Option.some.injEq, Cell.dat.injEq, Cell.own.injEq, Cont.lst.injEq, D.bl.injEq, D.int.injEq, D.str.injEq, D.tup.injEq, D.lst.injEq, Arg.d.injEq, List.cons.injEq, exists_and_left, exists_and_right, exists_eq_left', exists_eq_left, exists_eq_right, exists_eq_right', exists_eq, exists_eq', and_true, true_and, and_assoc, and_self, exists_const, reduceCtorEq]
  simp only [true_implies]
  exact ⟨h1 rfl _ rfl, fun z => z.elim⟩
theorem keyP_of {d : D} (h : isTh d = true) : ∃ t b : Int, d = .tup [.int t, .int b] ∧ keyP d = .tup [.int (t * 1000000 / b), d] ∧ pyD (keyP d) = .tuple [.int (t * 1000000 / b), .tuple [.int t, .int b]] ∧ (toPy (keyP d)).isSome := by
  obtain ⟨t, b, rfl, _⟩ := th_shape h
  exact ⟨t, b, rfl, rfl, rfl, rfl⟩
/-- the keys ascend -/
theorem leD_key {k t b k' t' b' : Int} (h : leD (.tup [.int k, .tup [.int t, .int b]]) (.tup [.int k', .tup [.int t', .int b']]) = true) : k ≤ k' := by
  cases Int.lt_or_le k' k with
  | inr z => exact z
  | inl z =>
    have e : leD (.tup [.int k, .tup [.int t, .int b]]) (.tup [.int k', .tup [.int t', .int b']]) = !(PyProof.Rows.lexLt PyProof.Rows.itemOrd [.inl 1, .inl k', .inl 1, .inl 1, .inl t', .inl 1, .inl b', .inl 0, .inl 0] [.inl 1, .inl k, .inl 1, .inl 1, .inl t, .inl 1, .inl b, .inl 0, .inl 0]) := rfl
    have e2 : PyProof.Rows.lexLt PyProof.Rows.itemOrd [.inl 1, .inl k', .inl 1, .inl 1, .inl t', .inl 1, .inl b', .inl 0, .inl 0] [.inl 1, .inl k, .inl 1, .inl 1, .inl t, .inl 1, .inl b, .inl 0, .inl 0] = true := by
      refine PyProof.Rows.lex_true.mpr (.inr ⟨rfl, PyProof.Rows.lex_true.mpr (.inl ?_)⟩)
      exact decide_eq_true z
    rw [e, e2] at h
    cases h
theorem le_of_keys {a b c d : Int} (hb : 1 ≤ b) (hb2 : b ≤ 144) (hd : 1 ≤ d) (hd2 : d ≤ 144) (h : a * 1000000 / b ≤ c * 1000000 / d) : a * d ≤ c * b := by
  cases Int.lt_or_le (c * b) (a * d) with
  | inr z => exact z
  | inl z =>
    exfalso
    have p1 : a * 1000000 < (a * 1000000 / b + 1) * b := by
      have := Int.lt_mul_ediv_self_add (x := a * 1000000) (show 0 < b by omega)
      rw [Int.add_mul, Int.one_mul, Int.mul_comm (a * 1000000 / b) b]
      exact this
    have p2 : c * 1000000 / d * d ≤ c * 1000000 := Int.ediv_mul_le _ (by omega)
    generalize a * 1000000 / b = p at *
    generalize c * 1000000 / d = p' at *
    have q1 := Int.mul_lt_mul_of_pos_right p1 (show 0 < d by omega)
    have q2 := Int.mul_le_mul_of_nonneg_right p2 (show 0 ≤ b by omega)
    have q3 := Int.mul_le_mul_of_nonneg_right (Int.mul_le_mul_of_nonneg_right h (show 0 ≤ d by omega)) (show 0 ≤ b by omega)
    have e1 : a * 1000000 * d = 1000000 * (a * d) := by simp only [Int.mul_assoc, Int.mul_comm, Int.mul_left_comm]
    have e2 : (p + 1) * b * d = p * d * b + b * d := by
      rw [Int.add_mul, Int.add_mul, Int.one_mul]
      congr 1
      simp only [Int.mul_assoc, Int.mul_comm, Int.mul_left_comm]
    have e3 : c * 1000000 * b = 1000000 * (c * b) := by simp only [Int.mul_assoc, Int.mul_comm, Int.mul_left_comm]
    have q4 : b * d ≤ 144 * 144 := Int.mul_le_mul hb2 hd2 (by omega) (by decide)
    rw [e1, e2] at q1
    rw [e3] at q2
    omega
theorem pairwise_zip {α : Type} {R : α → α → Prop} : ∀ {l : List α}, l.Pairwise R → ∀ i x y, l[i]? = some x → l[i + 1]? = some y → R x y
  | l, h, i, x, y, e1, e2 => by
    obtain ⟨h1, rfl⟩ := List.getElem?_eq_some_iff.mp e1
    obtain ⟨h2, rfl⟩ := List.getElem?_eq_some_iff.mp e2
    exact List.pairwise_iff_getElem.mp h i (i + 1) h1 h2 (by omega)
theorem ascP_pairs {ds : List D} (ht : ∀ d ∈ ds, isTh d = true) (h : ∀ i x y, ds[i]? = some x → ds[i + 1]? = some y → leP (.tup [x, y]) = true) : ascP ds = true := by
  unfold ascP
  rw [List.all_eq_true]
  intro p hp
  unfold zipD at hp
  obtain ⟨i, hi, rfl⟩ := List.getElem_of_mem hp
  rw [List.getElem_zipWith]
  have hi' : i < ds.length - 1 := by
    rw [List.length_zipWith, List.length_drop] at hi
    omega
  refine h i _ _ (List.getElem?_eq_getElem (by omega)) ?_
  rw [List.getElem_drop]
  have : 1 + i = i + 1 := by omega
  simp only [this]
  exact List.getElem?_eq_getElem (by omega)
theorem pure__law_in_order : PureD 1 3 (fs__law_in_order K) (w__law_in_order K) := by
  rintro cs q e - ⟨es, rfl, hl, hs, hq⟩
  simp only [w__law_in_order, wListRg1, wListRg2, wRngDown, wZipK, gInL, gNotInT, wCatOwn, gIsB, gNotB, D.adr.injEq, Cont.pool.injEq, ixN31, ne_eq, List.map_cons, List.map_nil, wPoolOpen, wPoolClose, wPop0, wPopTo, wListOwn, wRemove, wRaise0, wRaise1, wAugOwn, wEnumL, wTru, wSlA, gCatA, gLtT, gLeT, wFrz, wChain3, wAttr, wMkF, wEnumT, wRevT, wDict0, wDict1, numD3, Nat.reduceAdd, atI0, atI1, atI2, atI3, atI4, ixN51, ixN52, ixN53, List.length_map, wNever, scal, V.int.injEq, V.str.injEq, V.bl.injEq, wSq, wNext, wBreak, wCont, wDrop, wRet, wRetN, wIfS, wAsg, wPar, wLstOwn, wAppend, wSetOwn, wIxOwn, wPeek, wRetOwn, wRetFr, wFor, wB, wNot, wAnd, wOr, wAndV, wOrV, wNotV, wIf, wChain, wNil, wCons, wCB, wTup, wLst, wNoPart, wPart, wSlT, wSlL, wSeq, wRng1, wRng2, wZip, wName, wNilT, wConsT, wTupT, wYes, wNeg, wVar, wC, wOp, wcNil, wcCons, wcOwn, wCall, wCallOwn, slots, cellsOf, OwnArgs, putBack, g2I, g2IC, gLen, gAbs, gGcd, gInt1, gTupleOf, gListOf, gIx, gCatT, gCat, gEq, gNe, gIsN, gNotN, scD, seqD_t, seqD_l, seqD_f, isNonD, List.nodup_cons, List.mem_cons, List.not_mem_nil, or_false, not_false_eq_true, Nat.reduceEqDiff, L3.Keeps, ends, wipeD, List.replicate, List.cons_append, List.nil_append, List.append_nil, List.getElem?_cons_zero, List.getElem?_cons_succ, List.set_cons_zero, List.set_cons_succ, List.getD_cons_zero, List.getD_cons_succ, List.length_cons, List.length_nil, List.nodup_nil, Option.some.injEq, Cell.dat.injEq, Cell.own.injEq, Cont.lst.injEq, D.bl.injEq, D.int.injEq, D.str.injEq, D.tup.injEq, D.lst.injEq, Arg.d.injEq, List.cons.injEq, exists_and_left, exists_and_right, exists_eq_left', exists_eq_left, exists_eq_right, exists_eq_right', exists_eq, exists_eq', and_true, true_and, and_assoc, and_self, exists_const, reduceCtorEq]
  refine c1__law_in_order_ok hl hs fun c2 => ?_
  have hm : ∀ d ∈ es.map keyP, ∃ x ∈ es, d = keyP x := fun d hd => by
    obtain ⟨x, hx, rfl⟩ := List.mem_map.mp hd
    exact ⟨x, hx, rfl⟩
  have hpy : ∀ p ∈ (es.map keyP).map pyD, ∃ a t b : Int, p = .tuple [.int a, .tuple [.int t, .int b]] := fun p hp => by
    obtain ⟨d, hd, rfl⟩ := List.mem_map.mp hp
    obtain ⟨x, hx, rfl⟩ := hm d hd
    obtain ⟨t, b, _, _, e3, _⟩ := keyP_of (hs x hx)
    exact ⟨_, t, b, e3⟩
  refine ⟨es.map keyP, .inl rfl, fun d hd => ?_, fun p hp p' hp' => ?_, .inl fun p hp => ?_, fun d hd => ?_, ?_⟩
  · obtain ⟨x, hx, rfl⟩ := hm d hd
    obtain ⟨_, _, _, _, _, e4⟩ := keyP_of (hs x hx)
    exact e4
  · obtain ⟨a, t, b, rfl⟩ := hpy p hp
    obtain ⟨a', t', b', rfl⟩ := hpy p' hp'
    rfl
  · obtain ⟨a, t, b, rfl⟩ := hpy p hp
    exact ⟨_, _, rfl⟩
  · obtain ⟨a, t, b, e⟩ := hpy (pyD d) (List.mem_map.mpr ⟨d, hd, rfl⟩)
    rw [e]
    exact Nat.le_of_ble_eq_true rfl
  · have hp : ((es.map keyP).mergeSort leD).Perm (es.map keyP) := List.mergeSort_perm _ _
    have tot := PySem.W.sortLe_total (listOrd itemOrd) false fun b : D => PySem.W.keyToks (pyD b)
    have hpw : ((es.map keyP).mergeSort leD).Pairwise (fun a b => leD a b = true) := List.pairwise_mergeSort (le := leD) (fun a b c h1 h2 => tot.trans a b c h1 h2) (fun a b => Bool.or_eq_true_iff.mpr (tot.total a b)) _
    have hsub : ∀ d ∈ (es.map keyP).mergeSort leD, ∃ x ∈ es, d = keyP x := fun d hd => hm d (hp.mem_iff.mp hd)
    have hlen : ((es.map keyP).mergeSort leD).length = es.length := by rw [hp.length_eq, List.length_map]
    generalize (es.map keyP).mergeSort leD = ss at hsub hlen hpw
    have hmem : ∀ d ∈ ss.map sndP, d ∈ es := fun d hd => by
      obtain ⟨y, hy, rfl⟩ := List.mem_map.mp hd
      obtain ⟨x, hx, rfl⟩ := hsub y hy
      obtain ⟨t, b, _, e2, _⟩ := keyP_of (hs x hx)
      rw [e2]
      exact hx
    refine c2__law_in_order_ok (c3 := .any) (by omega) (fun d hd => ?_) ⟨ss.map sndP, rfl, trivial, hq _ (by rw [List.length_map, hlen]) hmem (ascP_pairs (fun d hd => hs d (hmem d hd)) fun i x y e1 e2 => ?_)⟩
    · obtain ⟨x, hx, rfl⟩ := hsub d hd
      obtain ⟨t, b, _, e2, _⟩ := keyP_of (hs x hx)
      exact ⟨_, _, e2⟩
    · rw [List.getElem?_map] at e1 e2
      cases f1 : ss[i]? with
      | none => rw [f1] at e1; cases e1
      | some u =>
        cases f2 : ss[i + 1]? with
        | none => rw [f2] at e2; cases e2
        | some v =>
          rw [f1] at e1
          rw [f2] at e2
          have key := pairwise_zip hpw i u v f1 f2
          obtain ⟨x', hx, rfl⟩ := hsub u (List.mem_of_getElem? f1)
          obtain ⟨y', hy, rfl⟩ := hsub v (List.mem_of_getElem? f2)
          obtain ⟨a, b, rfl, b1, b2, _, _⟩ := th_shape (hs _ hx)
          obtain ⟨c, d, rfl, d1, d2, _, _⟩ := th_shape (hs _ hy)
          cases e1
          cases e2
          simp only [sndP, keyP, leP, decide_eq_true_eq]
          exact le_of_keys b1 b2 d1 d2 (leD_key key)
theorem ok__law_in_order (T : Txt K mg) : FnOk P w K mg base (L2.CX P w) 1 T.f__law_in_order T.fd__law_in_order ["steps"] (spOf K 1 (fs__law_in_order K)) := by
  refine def_ok T.F__law_in_order sc__law_in_order (wb := w__law_in_order K) pure__law_in_order ?_
  intro cdv A outer s H E hr tk
  exact ⟨_, (pss_cons (ps_set (i := 1) sc__law_in_order.nd rfl (by first | exact Or.inl rfl | exact Or.inr rfl) (pe_callB (cr_sortG hr.units) (by rfl) T.z_sorted (by decide +kernel) (pa_cons (pe_lc (own := [("one", 2)]) (g := (gName 2)) (tt := tYes) (te := (tTup (tCons (tOp rDivW (tOp rMulA (tOp (rIx K) (tVar 2) (tC (.int 0))) (tOp rPowI (tC (.int 10)) (tC (.int 6)))) (tOp (rIx K) (tVar 2) (tC (.int 1)))) (tCons (tVar 2) tNil)))) rfl sc__law_in_order.nd (pi_seq (pv 0)) (blkOk_by (N := ["steps", "pairs", "one", "pair"]) (sc := defScope s__law_in_order) (by decide +kernel)) (fun _ _ _ _ _ => (pg_name (i := 2) sc__law_in_order.nd rfl (by first | exact Or.inl rfl | exact Or.inr rfl))) (fun _ _ _ _ _ => pts_nil) (fun _ _ _ _ _ => (pe_tup (pa_cons (pe_op op_fdivW (pe_op op_mulA (pe_ix ix_seq (pv 2) pe_int (fun _ _ => rfl)) (pe_op op_pow pe_int pe_int)) (pe_ix ix_seq (pv 2) pe_int (fun _ _ => rfl))) (pa_cons (pv 2) pa_nil))))) pa_nil)))
      (pss_one (ps_ret (pe_callTy call_tuple_of (by rfl) T.z_tuple (by decide +kernel) (pa_cons (pe_lc (own := [("pair", 3)]) (g := (gName 3)) (tt := tYes) (te := (tOp (rIx K) (tVar 3) (tC (.int 1)))) rfl sc__law_in_order.nd (pi_seq (pv 1)) (blkOk_by (N := ["steps", "pairs", "one", "pair"]) (sc := defScope s__law_in_order) (by decide +kernel)) (fun _ _ _ _ _ => (pg_name (i := 3) sc__law_in_order.nd rfl (by first | exact Or.inl rfl | exact Or.inr rfl))) (fun _ _ _ _ _ => pts_nil) (fun _ _ _ _ _ => (pe_ix ix_seq (pv 3) pe_int (fun _ _ => rfl)))) pa_nil))))),
    (ds_seq (ds_asg (de_cb o_sort (da_cons (de_lc (vs := [2]) (wI := (wSeq (wVar 0))) (wg := (wName 2)) (wt := wYes) (we := (wTup (wCons (wOp gDivW (wOp gMulA (wOp gIx (wVar 2) (wC (.int 0))) (wOp gPowI (wC (.int 10)) (wC (.int 6)))) (wOp gIx (wVar 2) (wC (.int 1)))) (wCons (wVar 2) wNil)))) (di_seq (de_var 0)) (dg_name 2) dt_yes (de_tup (da_cons (de_op o_fdivW (de_op o_mulA (de_op o_ix (de_var 2) de_int) (de_op o_pow de_int de_int)) (de_op o_ix (de_var 2) de_int)) (da_cons (de_var 2) da_nil))) (by decide)) da_nil)) (dg_name 1))
      (ds_ret (de_cb o_tupleOf (da_cons (de_lc (vs := [3]) (wI := (wSeq (wVar 1))) (wg := (wName 3)) (wt := wYes) (we := (wOp gIx (wVar 3) (wC (.int 1)))) (di_seq (de_var 1)) (dg_name 3) dt_yes (de_op o_ix (de_var 3) de_int) (by decide)) da_nil))))⟩
abbrev s__law_steps : Stmt := topS 44
theorem sc__law_steps : FnScope ["source", "most", "wide", "found", "k", "kind"] ["source", "most", "wide"] (defScope s__law_steps) := ⟨rfl, rfl, rfl, by decide +kernel, rfl, by decide +kernel, by decide +kernel⟩
def l1__law_steps (K : PySem.W.Frag) : SW := wFor (wRng1 (wCons (wOp gAddI (wC (.int 1)) (wCall 2 (fs__law_draw K) (wcOwn 0 (wcCons (wVar 1) wcNil)))) wNil)) (wName 4) (wSq (wAsg (wCall 2 (fs__law_draw K) (wcOwn 0 (wcCons (wC (.int 5)) wcNil))) (wName 5))
  (wIfS (wAnd (wB (wOp gEq (wVar 5) (wC (.int 0)))) (wB (wOp gGtI (wPeek 3 (fun es q => q (.int es.length))) (wC (.int 0))))) (wAppend 3 (wCons (wCall 2 (fs__law_pick_o1 K) (wcOwn 0 (wcOwn 3 wcNil))) wNil)) (wIfS (wAnd (wB (wOp gEq (wVar 5) (wC (.int 1)))) (wB (wVar 2))) (wAppend 3 (wCons (wCall 2 (fs__law_made K) (wcCons (wOp gAddI (wC (.int 1)) (wCall 2 (fs__law_draw K) (wcOwn 0 (wcCons (wOp gPowI (wC (.int 10)) (wC (.int 6))) wcNil)))) (wcCons (wOp gAddI (wC (.int 1)) (wCall 2 (fs__law_draw K) (wcOwn 0 (wcCons (wC (.int 144)) wcNil)))) wcNil))) wNil)) (wIfS (wB (wOp gEq (wVar 5) (wC (.int 2)))) (wAppend 3 (wCons (wCall 2 (fs__law_made K) (wcCons (wOp gAddI (wC (.int 1)) (wCall 2 (fs__law_draw K) (wcOwn 0 (wcCons (wC (.int 12)) wcNil)))) (wcCons (wOp gAddI (wC (.int 1)) (wCall 2 (fs__law_draw K) (wcOwn 0 (wcCons (wC (.int 4)) wcNil)))) wcNil))) wNil)) (wAppend 3 (wCons (wTup (wCons (wOp gAddI (wC (.int 1)) (wCall 2 (fs__law_draw K) (wcOwn 0 (wcCons (wC (.int 5)) wcNil)))) (wCons (wC (.int 1)) wNil))) wNil))))))
def w__law_steps (K : PySem.W.Frag) : SW := (wSq (wLstOwn 3 wNil)
  (wSq (l1__law_steps K)
  (wRet (wCall 1 (fs__law_in_order K) (wcCons (wFrz 3) wcNil)))))
/-- a list that is drawn -/
def StepsD (es : List D) : Prop := 1 ≤ es.length ∧ es.length ≤ 6 ∧ (∀ d ∈ es, isTh d = true) ∧ ascP es = true
theorem stepsD_li {es : List D} (h : StepsD es) : isLi (.tup es) = true := by
  obtain ⟨h1, h2, h3, h4⟩ := h
  simp only [isLi, Bool.and_eq_true]
  refine ⟨⟨by simp [isTupOf]; omega, by rw [List.all_eq_true]; exact h3⟩, h4⟩
def fs__law_steps (K : PySem.W.Frag) : FS := fun cs q _ => ∃ (p : Addr) (c : Cont) (m : Int) (w : Bool), cs = [.own p c, .dat (.int m), .dat (.bl w)] ∧ SrcC c ∧ 1 ≤ m ∧ m ≤ 6 ∧ ∀ (c' : Cont) (es : List D), SrcC c' → (es.length : Int) ≤ m → StepsD es → q (.tup es) [.own p c', .dat (.int m), .dat (.bl w)]
def InvSt (p0 p : Addr) (m : Int) (w : Bool) (i : Nat) (τ : List Cell) : Prop := ∃ (c : Cont) (es : List D) (c4 c5 : Cell), τ = [.own p0 c, .dat (.int m), .dat (.bl w), .own p (.lst es), c4, c5] ∧ SrcC c ∧ es.length = i ∧ ∀ d ∈ es, isTh d = true
theorem th_nf {t b : Int} (h1 : 0 < t) (h2 : 0 < b) (h3 : t ≤ 1000000) (h4 : b ≤ 144) : isTh (nf t b) = true := by
  obtain ⟨t', b', e1, b0, e2, e3, e4, e5⟩ := nf_parts (t := t) h2
  have t0 : 0 < t' := by
    have : 0 < b * t' := by rw [Int.mul_comm, e2]; exact Int.mul_pos h1 b0
    exact pos_right h2 this
  rw [e1]
  simp only [isTh, isFr, e5, Bool.and_eq_true, decide_eq_true_eq]
  refine ⟨⟨⟨⟨by omega, trivial⟩, by omega⟩, by omega⟩, by omega⟩
theorem all_snoc {P : D → Prop} {es : List D} {d : D} (h : ∀ d ∈ es, P d) (h2 : P d) : ∀ x ∈ es ++ [d], P x := fun x hx => by
  rcases List.mem_append.mp hx with hx | hx
  · exact h x hx
  · have : x = d := by simpa using hx
    rw [this]
    exact h2
theorem l1__law_steps_ok {p0 p : Addr} {c : Cont} {m : Int} {w : Bool} {c4 c5 : Cell} {E : EndsD} (hc : SrcC c) (m1 : 1 ≤ m) (m6 : m ≤ 6) (hn : ∀ (c : Cont) (es : List D) c4 c5, SrcC c → 1 ≤ es.length → (es.length : Int) ≤ m → (∀ d ∈ es, isTh d = true) → E.nx [.own p0 c, .dat (.int m), .dat (.bl w), .own p (.lst es), c4, c5]) :
    l1__law_steps K E [.own p0 c, .dat (.int m), .dat (.bl w), .own p (.lst []), c4, c5] := by
  unfold l1__law_steps wFor
  simp only [fs__law_draw, wListRg1, wListRg2, wRngDown, wZipK, gInL, gNotInT, wCatOwn, gIsB, gNotB, D.adr.injEq, Cont.pool.injEq, ixN31, ne_eq, List.map_cons, List.map_nil, wPoolOpen, wPoolClose, wPop0, wPopTo, wListOwn, wRemove, wRaise0, wRaise1, wAugOwn, wEnumL, wTru, wSlA, gCatA, gLtT, gLeT, wFrz, wChain3, wAttr, wMkF, wEnumT, wRevT, wDict0, wDict1, numD3, Nat.reduceAdd, atI0, atI1, atI2, atI3, atI4, ixN51, ixN52, ixN53, List.length_map, wNever, scal, V.int.injEq, V.str.injEq, V.bl.injEq, wSq, wNext, wBreak, wCont, wDrop, wRet, wRetN, wIfS, wAsg, wPar, wLstOwn, wAppend, wSetOwn, wIxOwn, wPeek, wRetOwn, wRetFr, wFor, wB, wNot, wAnd, wOr, wAndV, wOrV, wNotV, wIf, wChain, wNil, wCons, wCB, wTup, wLst, wNoPart, wPart, wSlT, wSlL, wSeq, wRng1, wRng2, wZip, wName, wNilT, wConsT, wTupT, wYes, wNeg, wVar, wC, wOp, wcNil, wcCons, wcOwn, wCall, wCallOwn, slots, cellsOf, OwnArgs, putBack, g2I, g2IC, gLen, gAbs, gGcd, gInt1, gTupleOf, gListOf, gIx, gCatT, gCat, gEq, gNe, gIsN, gNotN, scD, seqD_t, seqD_l, seqD_f, isNonD, List.nodup_cons, List.mem_cons, List.not_mem_nil, or_false, not_false_eq_true, Nat.reduceEqDiff, L3.Keeps, ends, wipeD, List.replicate, List.cons_append, List.nil_append, List.append_nil, List.getElem?_cons_zero, List.getElem?_cons_succ, List.set_cons_zero, List.set_cons_succ, List.getD_cons_zero, List.getD_cons_succ, List.length_cons, List.length_nil, List.nodup_nil, Option.some.injEq, Cell.dat.injEq, Cell.own.injEq, Cont.lst.injEq, D.bl.injEq, D.int.injEq, D.str.injEq, D.tup.injEq, D.lst.injEq, Arg.d.injEq, List.cons.injEq, exists_and_left, exists_and_right, exists_eq_left', exists_eq_left, exists_eq_right, exists_eq_right', exists_eq, exists_eq', and_true, true_and, and_assoc, and_self, exists_const, reduceCtorEq]
  refine ⟨hc, by omega, by omega, fun c' n hc' h0 h6 => ⟨by omega, by omega, InvSt p0 p m w, ⟨c', [], c4, c5, rfl, hc', rfl, fun d h => by simp at h⟩, ?_, ?_⟩⟩
  · rintro i d τ2 hi ⟨c, es, c4, c5, rfl, hc, hl, he⟩
    have hlt : i < 6 := by
      have := (List.getElem?_eq_some_iff.mp hi).1
      rw [rangeD_length] at this
      omega
    have cp : CPow 10 6 := ⟨by decide, by decide, by decide⟩
    have b200 : ∀ x : Int, 0 ≤ x → x < 2000000 → (1 + x).natAbs < 2 ^ 400 := fun x a b => Nat.lt_of_lt_of_le (show (1 + x).natAbs < 2 ^ 40 by omega) (Nat.pow_le_pow_right (by decide) (by decide))
    have mk : ∀ (c' : Cont) (x : D) (c5 : Cell), SrcC c' → isTh x = true → es.length < 1000 ∧ InvSt p0 p m w (i + 1) [.own p0 c', .dat (.int m), .dat (.bl w), .own p (.lst (es ++ [x])), .dat d, c5] := fun c' x c5 hc' hx =>
      ⟨by omega, c', es ++ [x], _, c5, rfl, hc', by rw [List.length_append, hl]; rfl, all_snoc he hx⟩
    have th1 : ∀ m : Int, 0 ≤ m → m < 5 → isTh (.tup [.int (1 + m), .int 1]) = true := fun m a b => by
      simp only [isTh, isFr, Bool.and_eq_true, decide_eq_true_eq]
      simp
      omega
    simp only [fs__law_draw, fs__law_made, fs__law_pick_o1, pow6, wListRg1, wListRg2, wRngDown, wZipK, gInL, gNotInT, wCatOwn, gIsB, gNotB, D.adr.injEq, Cont.pool.injEq, ixN31, ne_eq, List.map_cons, List.map_nil, wPoolOpen, wPoolClose, wPop0, wPopTo, wListOwn, wRemove, wRaise0, wRaise1, wAugOwn, wEnumL, wTru, wSlA, gCatA, gLtT, gLeT, wFrz, wChain3, wAttr, wMkF, wEnumT, wRevT, wDict0, wDict1, numD3, Nat.reduceAdd, atI0, atI1, atI2, atI3, atI4, ixN51, ixN52, ixN53, List.length_map, wNever, scal, V.int.injEq, V.str.injEq, V.bl.injEq, wSq, wNext, wBreak, wCont, wDrop, wRet, wRetN, wIfS, wAsg, wPar, wLstOwn, wAppend, wSetOwn, wIxOwn, wPeek, wRetOwn, wRetFr, wFor, wB, wNot, wAnd, wOr, wAndV, wOrV, wNotV, wIf, wChain, wNil, wCons, wCB, wTup, wLst, wNoPart, wPart, wSlT, wSlL, wSeq, wRng1, wRng2, wZip, wName, wNilT, wConsT, wTupT, wYes, wNeg, wVar, wC, wOp, wcNil, wcCons, wcOwn, wCall, wCallOwn, slots, cellsOf, OwnArgs, putBack, g2I, g2IC, gLen, gAbs, gGcd, gInt1, gTupleOf, gListOf, gIx, gCatT, gCat, gEq, gNe, gIsN, gNotN, scD, seqD_t, seqD_l, seqD_f, isNonD, List.nodup_cons, List.mem_cons, List.not_mem_nil, or_false, not_false_eq_true, Nat.reduceEqDiff, L3.Keeps, ends, wipeD, List.replicate, List.cons_append, List.nil_append, List.append_nil, List.getElem?_cons_zero, List.getElem?_cons_succ, List.set_cons_zero, List.set_cons_succ, List.getD_cons_zero, List.getD_cons_succ, List.length_cons, List.length_nil, List.nodup_nil, Option.some.injEq, Cell.dat.injEq, Cell.own.injEq, Cont.lst.injEq, D.bl.injEq, D.int.injEq, D.str.injEq, D.tup.injEq, D.lst.injEq, Arg.d.injEq, List.cons.injEq, exists_and_left, exists_and_right, exists_eq_left', exists_eq_left, exists_eq_right, exists_eq_right', exists_eq, exists_eq', and_true, true_and, and_assoc, and_self, exists_const, reduceCtorEq]
    refine ⟨hc, by decide, by decide, fun c1 n1 hc1 a1 a2 => ⟨fun z => ⟨fun z2 => ?_, fun z2 => ?_⟩, fun z => ⟨fun f => f.elim, fun _ => ?_⟩⟩⟩
    · have z2 := of_decide_eq_true z2
      exact ⟨hc1, by omega, by omega, fun c2 x hc2 hx => mk c2 x _ hc2 (he x hx)⟩
    all_goals
      refine ⟨fun z => ⟨fun _ => ?_, fun f => ?_⟩, fun z => ⟨fun f => f.elim, fun _ => ⟨fun z => ?_, fun z => ?_⟩⟩⟩
      · exact ⟨cp, hc1, by decide, by decide, fun c2 m hc2 b1 b2 => ⟨hc2, by decide, by decide, fun c3 m2 hc3 d1 d2 => ⟨by omega, b200 m2 d1 (by omega), mk c3 _ _ hc3 (th_nf (by omega) (by omega) (by omega) (by omega))⟩⟩⟩
      · refine ⟨fun z => ?_, fun z => ?_⟩
        · exact ⟨hc1, by decide, by decide, fun c2 m hc2 b1 b2 => ⟨hc2, by decide, by decide, fun c3 m2 hc3 d1 d2 => ⟨by omega, b200 m2 d1 (by omega), mk c3 _ _ hc3 (th_nf (by omega) (by omega) (by omega) (by omega))⟩⟩⟩
        · exact ⟨hc1, by decide, by decide, fun c2 m hc2 b1 b2 => ⟨by decide, mk c2 _ _ hc2 (th1 m b1 b2)⟩⟩
      · exact ⟨hc1, by decide, by decide, fun c2 m hc2 b1 b2 => ⟨hc2, by decide, by decide, fun c3 m2 hc3 d1 d2 => ⟨by omega, b200 m2 d1 (by omega), mk c3 _ _ hc3 (th_nf (by omega) (by omega) (by omega) (by omega))⟩⟩⟩
      · exact ⟨hc1, by decide, by decide, fun c2 m hc2 b1 b2 => ⟨by decide, mk c2 _ _ hc2 (th1 m b1 b2)⟩⟩
  · rintro τ2 ⟨c, es, c4, c5, rfl, hc, hl, he⟩
    rw [rangeD_length] at hl
    exact hn c es c4 c5 hc (by omega) (by omega) he
theorem pure__law_steps : PureD 3 3 (fs__law_steps K) (w__law_steps K) := by
  rintro cs q e - ⟨p0, c, m, w, rfl, hc, m1, m6, hq⟩
  simp only [w__law_steps, wListRg1, wListRg2, wRngDown, wZipK, gInL, gNotInT, wCatOwn, gIsB, gNotB, D.adr.injEq, Cont.pool.injEq, ixN31, ne_eq, List.map_cons, List.map_nil, wPoolOpen, wPoolClose, wPop0, wPopTo, wListOwn, wRemove, wRaise0, wRaise1, wAugOwn, wEnumL, wTru, wSlA, gCatA, gLtT, gLeT, wFrz, wChain3, wAttr, wMkF, wEnumT, wRevT, wDict0, wDict1, numD3, Nat.reduceAdd, atI0, atI1, atI2, atI3, atI4, ixN51, ixN52, ixN53, List.length_map, wNever, scal, V.int.injEq, V.str.injEq, V.bl.injEq, wSq, wNext, wBreak, wCont, wDrop, wRet, wRetN, wIfS, wAsg, wPar, wLstOwn, wAppend, wSetOwn, wIxOwn, wPeek, wRetOwn, wRetFr, wFor, wB, wNot, wAnd, wOr, wAndV, wOrV, wNotV, wIf, wChain, wNil, wCons, wCB, wTup, wLst, wNoPart, wPart, wSlT, wSlL, wSeq, wRng1, wRng2, wZip, wName, wNilT, wConsT, wTupT, wYes, wNeg, wVar, wC, wOp, wcNil, wcCons, wcOwn, wCall, wCallOwn, slots, cellsOf, OwnArgs, putBack, g2I, g2IC, gLen, gAbs, gGcd, gInt1, gTupleOf, gListOf, gIx, gCatT, gCat, gEq, gNe, gIsN, gNotN, scD, seqD_t, seqD_l, seqD_f, isNonD, List.nodup_cons, List.mem_cons, List.not_mem_nil, or_false, not_false_eq_true, Nat.reduceEqDiff, L3.Keeps, ends, wipeD, List.replicate, List.cons_append, List.nil_append, List.append_nil, List.getElem?_cons_zero, List.getElem?_cons_succ, List.set_cons_zero, List.set_cons_succ, List.getD_cons_zero, List.getD_cons_succ, List.length_cons, List.length_nil, List.nodup_nil, Option.some.injEq, Cell.dat.injEq, Cell.own.injEq, Cont.lst.injEq, D.bl.injEq, D.int.injEq, D.str.injEq, D.tup.injEq, D.lst.injEq, Arg.d.injEq, List.cons.injEq, exists_and_left, exists_and_right, exists_eq_left', exists_eq_left, exists_eq_right, exists_eq_right', exists_eq, exists_eq', and_true, true_and, and_assoc, and_self, exists_const, reduceCtorEq]
  refine ⟨by decide, fun p => l1__law_steps_ok hc m1 m6 fun c es c4 c5 hc h1 h6 he => ?_⟩
  simp only [fs__law_in_order, wListRg1, wListRg2, wRngDown, wZipK, gInL, gNotInT, wCatOwn, gIsB, gNotB, D.adr.injEq, Cont.pool.injEq, ixN31, ne_eq, List.map_cons, List.map_nil, wPoolOpen, wPoolClose, wPop0, wPopTo, wListOwn, wRemove, wRaise0, wRaise1, wAugOwn, wEnumL, wTru, wSlA, gCatA, gLtT, gLeT, wFrz, wChain3, wAttr, wMkF, wEnumT, wRevT, wDict0, wDict1, numD3, Nat.reduceAdd, atI0, atI1, atI2, atI3, atI4, ixN51, ixN52, ixN53, List.length_map, wNever, scal, V.int.injEq, V.str.injEq, V.bl.injEq, wSq, wNext, wBreak, wCont, wDrop, wRet, wRetN, wIfS, wAsg, wPar, wLstOwn, wAppend, wSetOwn, wIxOwn, wPeek, wRetOwn, wRetFr, wFor, wB, wNot, wAnd, wOr, wAndV, wOrV, wNotV, wIf, wChain, wNil, wCons, wCB, wTup, wLst, wNoPart, wPart, wSlT, wSlL, wSeq, wRng1, wRng2, wZip, wName, wNilT, wConsT, wTupT, wYes, wNeg, wVar, wC, wOp, wcNil, wcCons, wcOwn, wCall, wCallOwn, slots, cellsOf, OwnArgs, putBack, g2I, g2IC, gLen, gAbs, gGcd, gInt1, gTupleOf, gListOf, gIx, gCatT, gCat, gEq, gNe, gIsN, gNotN, scD, seqD_t, seqD_l, seqD_f, isNonD, List.nodup_cons, List.mem_cons, List.not_mem_nil, or_false, not_false_eq_true, Nat.reduceEqDiff, L3.Keeps, ends, wipeD, List.replicate, List.cons_append, List.nil_append, List.append_nil, List.getElem?_cons_zero, List.getElem?_cons_succ, List.set_cons_zero, List.set_cons_succ, List.getD_cons_zero, List.getD_cons_succ, List.length_cons, List.length_nil, List.nodup_nil, Option.some.injEq, Cell.dat.injEq, Cell.own.injEq, Cont.lst.injEq, D.bl.injEq, D.int.injEq, D.str.injEq, D.tup.injEq, D.lst.injEq, Arg.d.injEq, List.cons.injEq, exists_and_left, exists_and_right, exists_eq_left', exists_eq_left, exists_eq_right, exists_eq_right', exists_eq, exists_eq', and_true, true_and, and_assoc, and_self, exists_const, reduceCtorEq]
  refine ⟨by omega, he, fun gs hl hg ha => hq c gs hc (by omega) ⟨by omega, by omega, fun d hd => he d (hg d hd), ha⟩⟩
theorem ok__law_steps (T : Txt K mg) : FnOk P w K mg base (L2.CX P w) 4 T.f__law_steps T.fd__law_steps ["source", "most", "wide"] (spOf K 3 (fs__law_steps K)) := by
  refine def_ok T.F__law_steps sc__law_steps (wb := w__law_steps K) pure__law_steps ?_
  intro cdv A outer s H E hr tk
  exact ⟨_, (pss_cons (ps_set (i := 3) sc__law_steps.nd rfl (by first | exact Or.inl rfl | exact Or.inr rfl) (pe_lst pa_nil))
      (pss_cons (ps_for (passes_of rfl) rfl (pi_range1 (by rfl) T.z_range (pa_cons (pe_op op_add pe_int (pe_callS (ok__law_draw T) (hr.mono (by decide)) rfl T.g__law_draw T.k__law_draw T.b__law_draw (fun σ => passAt tk σ) (pa_cons (pv 0) (pa_cons (pv 1) pa_nil)))) pa_nil)) (pg_name (i := 4) sc__law_steps.nd rfl (by first | exact Or.inl rfl | exact Or.inr rfl))
        (pss_cons (ps_set (i := 5) sc__law_steps.nd rfl (by first | exact Or.inl rfl | exact Or.inr rfl) (pe_callS (ok__law_draw T) (hr.mono (by decide)) rfl T.g__law_draw T.k__law_draw T.b__law_draw (fun σ => passAt tk σ) (pa_cons (pv 0) (pa_cons pe_int pa_nil))))
      (pss_one (ps_if (PW.pt (pw_and (pt_cmpR op_eq (pv 5) pe_int (nomark _)) (pw_and1 (pt_cmpR op_gt (pe_callB call_len_seq (by rfl) T.z_len (by decide +kernel) (pa_cons (pv 3) pa_nil)) pe_int (nomark _)))))
        (pss_one (ps_expr (pe_bm PySem.F.plainAttrs_list PySem.F.slot_list_append PySem.F.type_list_append mt_append (pv 3) (pa_cons (pe_callS (ok__law_pick_o1 T) (hr.mono (by decide)) rfl T.g__law_pick T.k__law_pick T.b__law_pick (fun σ => passAt tk σ) (pa_cons (pv 0) (pa_cons (pv 3) pa_nil))) pa_nil))))
        (pss_one (ps_if (PW.pt (pw_and (pt_cmpR op_eq (pv 5) pe_int (nomark _)) (pw_and1 (pt_val (pv 2)))))
        (pss_one (ps_expr (pe_bm PySem.F.plainAttrs_list PySem.F.slot_list_append PySem.F.type_list_append mt_append (pv 3) (pa_cons (pe_callS (ok__law_made T) (hr.mono (by decide)) rfl T.g__law_made T.k__law_made T.b__law_made (fun σ => passAt tk σ) (pa_cons (pe_op op_add pe_int (pe_callS (ok__law_draw T) (hr.mono (by decide)) rfl T.g__law_draw T.k__law_draw T.b__law_draw (fun σ => passAt tk σ) (pa_cons (pv 0) (pa_cons (pe_op op_pow pe_int pe_int) pa_nil)))) (pa_cons (pe_op op_add pe_int (pe_callS (ok__law_draw T) (hr.mono (by decide)) rfl T.g__law_draw T.k__law_draw T.b__law_draw (fun σ => passAt tk σ) (pa_cons (pv 0) (pa_cons pe_int pa_nil)))) pa_nil))) pa_nil))))
        (pss_one (ps_if (pt_cmpR op_eq (pv 5) pe_int (nomark _))
        (pss_one (ps_expr (pe_bm PySem.F.plainAttrs_list PySem.F.slot_list_append PySem.F.type_list_append mt_append (pv 3) (pa_cons (pe_callS (ok__law_made T) (hr.mono (by decide)) rfl T.g__law_made T.k__law_made T.b__law_made (fun σ => passAt tk σ) (pa_cons (pe_op op_add pe_int (pe_callS (ok__law_draw T) (hr.mono (by decide)) rfl T.g__law_draw T.k__law_draw T.b__law_draw (fun σ => passAt tk σ) (pa_cons (pv 0) (pa_cons pe_int pa_nil)))) (pa_cons (pe_op op_add pe_int (pe_callS (ok__law_draw T) (hr.mono (by decide)) rfl T.g__law_draw T.k__law_draw T.b__law_draw (fun σ => passAt tk σ) (pa_cons (pv 0) (pa_cons pe_int pa_nil)))) pa_nil))) pa_nil))))
        (pss_one (ps_expr (pe_bm PySem.F.plainAttrs_list PySem.F.slot_list_append PySem.F.type_list_append mt_append (pv 3) (pa_cons (pe_tup (pa_cons (pe_op op_add pe_int (pe_callS (ok__law_draw T) (hr.mono (by decide)) rfl T.g__law_draw T.k__law_draw T.b__law_draw (fun σ => passAt tk σ) (pa_cons (pv 0) (pa_cons pe_int pa_nil)))) (pa_cons pe_int pa_nil))) pa_nil))))))))))))
      (pss_one (ps_ret (pe_callS (ok__law_in_order T) (hr.mono (by decide)) rfl T.g__law_in_order T.k__law_in_order T.b__law_in_order (fun σ => passAt tk σ) (pa_cons (pv 3) pa_nil)))))),
    (ds_seq (ds_lstOwn (i := 3) da_nil)
      (ds_seq (ds_for (wI := (wRng1 (wCons (wOp gAddI (wC (.int 1)) (wCall 2 (fs__law_draw K) (wcOwn 0 (wcCons (wVar 1) wcNil)))) wNil))) (wg := (wName 4)) (wb := (wSq (wAsg (wCall 2 (fs__law_draw K) (wcOwn 0 (wcCons (wC (.int 5)) wcNil))) (wName 5))
  (wIfS (wAnd (wB (wOp gEq (wVar 5) (wC (.int 0)))) (wB (wOp gGtI (wPeek 3 (fun es q => q (.int es.length))) (wC (.int 0))))) (wAppend 3 (wCons (wCall 2 (fs__law_pick_o1 K) (wcOwn 0 (wcOwn 3 wcNil))) wNil)) (wIfS (wAnd (wB (wOp gEq (wVar 5) (wC (.int 1)))) (wB (wVar 2))) (wAppend 3 (wCons (wCall 2 (fs__law_made K) (wcCons (wOp gAddI (wC (.int 1)) (wCall 2 (fs__law_draw K) (wcOwn 0 (wcCons (wOp gPowI (wC (.int 10)) (wC (.int 6))) wcNil)))) (wcCons (wOp gAddI (wC (.int 1)) (wCall 2 (fs__law_draw K) (wcOwn 0 (wcCons (wC (.int 144)) wcNil)))) wcNil))) wNil)) (wIfS (wB (wOp gEq (wVar 5) (wC (.int 2)))) (wAppend 3 (wCons (wCall 2 (fs__law_made K) (wcCons (wOp gAddI (wC (.int 1)) (wCall 2 (fs__law_draw K) (wcOwn 0 (wcCons (wC (.int 12)) wcNil)))) (wcCons (wOp gAddI (wC (.int 1)) (wCall 2 (fs__law_draw K) (wcOwn 0 (wcCons (wC (.int 4)) wcNil)))) wcNil))) wNil)) (wAppend 3 (wCons (wTup (wCons (wOp gAddI (wC (.int 1)) (wCall 2 (fs__law_draw K) (wcOwn 0 (wcCons (wC (.int 5)) wcNil)))) (wCons (wC (.int 1)) wNil))) wNil))))))) (di_rng1 (da_cons (de_op o_add de_int (de_call (n := 2) (fs := fs__law_draw K) (dac_own (j := 0) (dac_cons (de_var 1) dac_nil)))) da_nil)) (dg_name 4) (ds_seq (ds_asg (de_call (n := 2) (fs := fs__law_draw K) (dac_own (j := 0) (dac_cons de_int dac_nil))) (dg_name 5))
      (ds_if (dt_and (dt_B (de_op o_eq (de_var 5) de_int)) (dt_B (de_op o_gt (de_peek (i := 3) p_len) de_int))) (ds_append (i := 3) (da_cons (de_call (n := 2) (fs := fs__law_pick_o1 K) (dac_own (j := 0) (dac_own (j := 3) dac_nil))) da_nil)) (ds_if (dt_and (dt_B (de_op o_eq (de_var 5) de_int)) (dt_B (de_var 2))) (ds_append (i := 3) (da_cons (de_call (n := 2) (fs := fs__law_made K) (dac_cons (de_op o_add de_int (de_call (n := 2) (fs := fs__law_draw K) (dac_own (j := 0) (dac_cons (de_op o_pow de_int de_int) dac_nil)))) (dac_cons (de_op o_add de_int (de_call (n := 2) (fs := fs__law_draw K) (dac_own (j := 0) (dac_cons de_int dac_nil)))) dac_nil))) da_nil)) (ds_if (dt_B (de_op o_eq (de_var 5) de_int)) (ds_append (i := 3) (da_cons (de_call (n := 2) (fs := fs__law_made K) (dac_cons (de_op o_add de_int (de_call (n := 2) (fs := fs__law_draw K) (dac_own (j := 0) (dac_cons de_int dac_nil)))) (dac_cons (de_op o_add de_int (de_call (n := 2) (fs := fs__law_draw K) (dac_own (j := 0) (dac_cons de_int dac_nil)))) dac_nil))) da_nil)) (ds_append (i := 3) (da_cons (de_tup (da_cons (de_op o_add de_int (de_call (n := 2) (fs := fs__law_draw K) (dac_own (j := 0) (dac_cons de_int dac_nil)))) (da_cons de_int da_nil))) da_nil)))))))
      (ds_ret (de_call (n := 1) (fs := fs__law_in_order K) (dac_cons (de_frz 3) dac_nil)))))⟩
abbrev s__law_widths : Stmt := topS 45
theorem sc__law_widths : FnScope ["source", "many", "seas", "kind", "alike", "found", "k"] ["source", "many", "seas"] (defScope s__law_widths) := ⟨rfl, rfl, rfl, by decide +kernel, rfl, by decide +kernel, by decide +kernel⟩
def l1__law_widths (K : PySem.W.Frag) : SW := wFor (wRng1 (wCons (wVar 1) wNil)) (wName 6) (wIfS (wAnd (wB (wVar 2)) (wB (wOp gEq (wCall 2 (fs__law_draw K) (wcOwn 0 (wcCons (wC (.int 5)) wcNil))) (wC (.int 0))))) (wAppend 5 (wCons (wC (.int 0)) wNil)) (wIfS (wB (wOp gEq (wVar 3) (wC (.int 0)))) (wAppend 5 (wCons (wOp gAddI (wC (.int 1)) (wCall 2 (fs__law_draw K) (wcOwn 0 (wcCons (wC (.int 12)) wcNil)))) wNil)) (wIfS (wB (wOp gEq (wVar 3) (wC (.int 1)))) (wAppend 5 (wCons (wOp gAddI (wC (.int 1)) (wCall 2 (fs__law_draw K) (wcOwn 0 (wcCons (wC (.int 3)) wcNil)))) wNil)) (wAppend 5 (wCons (wVar 4) wNil)))))
def w__law_widths (K : PySem.W.Frag) : SW := (wSq (wAsg (wCall 2 (fs__law_draw K) (wcOwn 0 (wcCons (wC (.int 4)) wcNil))) (wName 3))
  (wSq (wAsg (wOp gAddI (wC (.int 1)) (wCall 2 (fs__law_draw K) (wcOwn 0 (wcCons (wC (.int 3)) wcNil)))) (wName 4))
  (wSq (wLstOwn 5 wNil)
  (wSq (l1__law_widths K)
  (wRet (wPeek 5 (fun es q => q (.tup es))))))))
/-- widths that are drawn -/
def WidD (d : D) : Prop := ∃ i : Int, d = .int i ∧ 0 ≤ i ∧ i ≤ 12
def fs__law_widths (K : PySem.W.Frag) : FS := fun cs q _ => ∃ (p : Addr) (c : Cont) (m : Int) (s : Bool), cs = [.own p c, .dat (.int m), .dat (.bl s)] ∧ SrcC c ∧ 0 ≤ m ∧ m ≤ 100 ∧ ∀ (c' : Cont) (es : List D), SrcC c' → (es.length : Int) = m → (∀ d ∈ es, WidD d) → (s = false → ∀ d ∈ es, d ≠ .int 0) → q (.tup es) [.own p c', .dat (.int m), .dat (.bl s)]
def InvWd (p0 p : Addr) (m : Int) (s : Bool) (k a : Int) (i : Nat) (τ : List Cell) : Prop := ∃ (c : Cont) (es : List D) (c6 : Cell), τ = [.own p0 c, .dat (.int m), .dat (.bl s), .dat (.int k), .dat (.int a), .own p (.lst es), c6] ∧ SrcC c ∧ es.length = i ∧ (∀ d ∈ es, WidD d) ∧ (s = false → ∀ d ∈ es, d ≠ .int 0)
theorem pure__law_widths : PureD 3 4 (fs__law_widths K) (w__law_widths K) := by
  rintro cs q e - ⟨p0, c, m, s, rfl, hc, m0, m1, hq⟩
  simp only [w__law_widths, fs__law_draw, wListRg1, wListRg2, wRngDown, wZipK, gInL, gNotInT, wCatOwn, gIsB, gNotB, D.adr.injEq, Cont.pool.injEq, ixN31, ne_eq, List.map_cons, List.map_nil, wPoolOpen, wPoolClose, wPop0, wPopTo, wListOwn, wRemove, wRaise0, wRaise1, wAugOwn, wEnumL, wTru, wSlA, gCatA, gLtT, gLeT, wFrz, wChain3, wAttr, wMkF, wEnumT, wRevT, wDict0, wDict1, numD3, Nat.reduceAdd, atI0, atI1, atI2, atI3, atI4, ixN51, ixN52, ixN53, List.length_map, wNever, scal, V.int.injEq, V.str.injEq, V.bl.injEq, wSq, wNext, wBreak, wCont, wDrop, wRet, wRetN, wIfS, wAsg, wPar, wLstOwn, wAppend, wSetOwn, wIxOwn, wPeek, wRetOwn, wRetFr, wFor, wB, wNot, wAnd, wOr, wAndV, wOrV, wNotV, wIf, wChain, wNil, wCons, wCB, wTup, wLst, wNoPart, wPart, wSlT, wSlL, wSeq, wRng1, wRng2, wZip, wName, wNilT, wConsT, wTupT, wYes, wNeg, wVar, wC, wOp, wcNil, wcCons, wcOwn, wCall, wCallOwn, slots, cellsOf, OwnArgs, putBack, g2I, g2IC, gLen, gAbs, gGcd, gInt1, gTupleOf, gListOf, gIx, gCatT, gCat, gEq, gNe, gIsN, gNotN, scD, seqD_t, seqD_l, seqD_f, isNonD, List.nodup_cons, List.mem_cons, List.not_mem_nil, or_false, not_false_eq_true, Nat.reduceEqDiff, L3.Keeps, ends, wipeD, List.replicate, List.cons_append, List.nil_append, List.append_nil, List.getElem?_cons_zero, List.getElem?_cons_succ, List.set_cons_zero, List.set_cons_succ, List.getD_cons_zero, List.getD_cons_succ, List.length_cons, List.length_nil, List.nodup_nil, Option.some.injEq, Cell.dat.injEq, Cell.own.injEq, Cont.lst.injEq, D.bl.injEq, D.int.injEq, D.str.injEq, D.tup.injEq, D.lst.injEq, Arg.d.injEq, List.cons.injEq, exists_and_left, exists_and_right, exists_eq_left', exists_eq_left, exists_eq_right, exists_eq_right', exists_eq, exists_eq', and_true, true_and, and_assoc, and_self, exists_const, reduceCtorEq]
  refine ⟨hc, by decide, by decide, fun c1 k hc1 k0 k4 => ⟨hc1, by decide, by decide, fun c2 a hc2 a0 a3 => ⟨by decide, fun p => ?_⟩⟩⟩
  unfold l1__law_widths wFor
  refine ⟨_, rfl, m, rfl, by omega, by omega, InvWd p0 p m s k (1 + a), ⟨c2, [], _, rfl, hc2, rfl, fun d h => by simp at h, fun _ d h => by simp at h⟩, ?_, ?_⟩
  · rintro i d τ2 hi ⟨c, es, c6, rfl, hc, hl, he, hs⟩
    have hlt : (i : Int) < m := by
      have := (List.getElem?_eq_some_iff.mp hi).1
      rw [rangeD_length] at this
      omega
    have mk : ∀ (c' : Cont) (x : Int), SrcC c' → 0 ≤ x → x ≤ 12 → (s = false → x ≠ 0) → es.length < 1000 ∧ InvWd p0 p m s k (1 + a) (i + 1) [.own p0 c', .dat (.int m), .dat (.bl s), .dat (.int k), .dat (.int (1 + a)), .own p (.lst (es ++ [.int x])), .dat d] := fun c' x hc' x0 x1 x2 => by
      refine ⟨by omega, c', es ++ [.int x], _, rfl, hc', by rw [List.length_append, hl]; rfl, all_snoc he ⟨x, rfl, x0, x1⟩, fun z => all_snoc (hs z) fun y => x2 z (by cases y; rfl)⟩
    have rest : ∀ c', SrcC c' → (decide (k = 0) = true → (SrcC c' ∧ (0 : Int) < 12 ∧ (12 : Int) < 2 ^ 30 ∧ ∀ (c'' : Cont) (n : Int), SrcC c'' → 0 ≤ n → n < 12 → es.length < 1000 ∧ InvWd p0 p m s k (1 + a) (i + 1) [.own p0 c'', .dat (.int m), .dat (.bl s), .dat (.int k), .dat (.int (1 + a)), .own p (.lst (es ++ [.int (1 + n)])), .dat d])) ∧
        (decide (k = 0) = false → (decide (k = 1) = true → SrcC c' ∧ (0 : Int) < 3 ∧ (3 : Int) < 2 ^ 30 ∧ ∀ (c'' : Cont) (n : Int), SrcC c'' → 0 ≤ n → n < 3 → es.length < 1000 ∧ InvWd p0 p m s k (1 + a) (i + 1) [.own p0 c'', .dat (.int m), .dat (.bl s), .dat (.int k), .dat (.int (1 + a)), .own p (.lst (es ++ [.int (1 + n)])), .dat d]) ∧
          (decide (k = 1) = false → es.length < 1000 ∧ InvWd p0 p m s k (1 + a) (i + 1) [.own p0 c', .dat (.int m), .dat (.bl s), .dat (.int k), .dat (.int (1 + a)), .own p (.lst (es ++ [.int (1 + a)])), .dat d])) := fun c' hc' =>
      ⟨fun _ => ⟨hc', by decide, by decide, fun c'' n hc'' n0 n1 => mk c'' _ hc'' (by omega) (by omega) fun _ => by omega⟩, fun _ => ⟨fun _ => ⟨hc', by decide, by decide, fun c'' n hc'' n0 n1 => mk c'' _ hc'' (by omega) (by omega) fun _ => by omega⟩, fun _ => mk c' _ hc' (by omega) (by omega) fun _ => by omega⟩⟩
    simp only [fs__law_draw, wListRg1, wListRg2, wRngDown, wZipK, gInL, gNotInT, wCatOwn, gIsB, gNotB, D.adr.injEq, Cont.pool.injEq, ixN31, ne_eq, List.map_cons, List.map_nil, wPoolOpen, wPoolClose, wPop0, wPopTo, wListOwn, wRemove, wRaise0, wRaise1, wAugOwn, wEnumL, wTru, wSlA, gCatA, gLtT, gLeT, wFrz, wChain3, wAttr, wMkF, wEnumT, wRevT, wDict0, wDict1, numD3, Nat.reduceAdd, atI0, atI1, atI2, atI3, atI4, ixN51, ixN52, ixN53, List.length_map, wNever, scal, V.int.injEq, V.str.injEq, V.bl.injEq, wSq, wNext, wBreak, wCont, wDrop, wRet, wRetN, wIfS, wAsg, wPar, wLstOwn, wAppend, wSetOwn, wIxOwn, wPeek, wRetOwn, wRetFr, wFor, wB, wNot, wAnd, wOr, wAndV, wOrV, wNotV, wIf, wChain, wNil, wCons, wCB, wTup, wLst, wNoPart, wPart, wSlT, wSlL, wSeq, wRng1, wRng2, wZip, wName, wNilT, wConsT, wTupT, wYes, wNeg, wVar, wC, wOp, wcNil, wcCons, wcOwn, wCall, wCallOwn, slots, cellsOf, OwnArgs, putBack, g2I, g2IC, gLen, gAbs, gGcd, gInt1, gTupleOf, gListOf, gIx, gCatT, gCat, gEq, gNe, gIsN, gNotN, scD, seqD_t, seqD_l, seqD_f, isNonD, List.nodup_cons, List.mem_cons, List.not_mem_nil, or_false, not_false_eq_true, Nat.reduceEqDiff, L3.Keeps, ends, wipeD, List.replicate, List.cons_append, List.nil_append, List.append_nil, List.getElem?_cons_zero, List.getElem?_cons_succ, List.set_cons_zero, List.set_cons_succ, List.getD_cons_zero, List.getD_cons_succ, List.length_cons, List.length_nil, List.nodup_nil, Option.some.injEq, Cell.dat.injEq, Cell.own.injEq, Cont.lst.injEq, D.bl.injEq, D.int.injEq, D.str.injEq, D.tup.injEq, D.lst.injEq, Arg.d.injEq, List.cons.injEq, exists_and_left, exists_and_right, exists_eq_left', exists_eq_left, exists_eq_right, exists_eq_right', exists_eq, exists_eq', and_true, true_and, and_assoc, and_self, exists_const, reduceCtorEq]
    cases s
    · exact ⟨fun z => (nomatch z), fun _ => ⟨fun z => (nomatch z), fun _ => rest c hc⟩⟩
    · refine ⟨fun _ => ⟨hc, by decide, by decide, fun c3 n hc3 n0 n5 => ?_⟩, fun z => (nomatch z)⟩
      exact ⟨fun _ => mk c3 0 hc3 (by decide) (by decide) fun z => (nomatch z), fun _ => rest c3 hc3⟩
  · rintro τ2 ⟨c, es, c6, rfl, hc, hl, he, hs⟩
    rw [rangeD_length] at hl
    simp only [wListRg1, wListRg2, wRngDown, wZipK, gInL, gNotInT, wCatOwn, gIsB, gNotB, D.adr.injEq, Cont.pool.injEq, ixN31, ne_eq, List.map_cons, List.map_nil, wPoolOpen, wPoolClose, wPop0, wPopTo, wListOwn, wRemove, wRaise0, wRaise1, wAugOwn, wEnumL, wTru, wSlA, gCatA, gLtT, gLeT, wFrz, wChain3, wAttr, wMkF, wEnumT, wRevT, wDict0, wDict1, numD3, Nat.reduceAdd, atI0, atI1, atI2, atI3, atI4, ixN51, ixN52, ixN53, List.length_map, wNever, scal, V.int.injEq, V.str.injEq, V.bl.injEq, wSq, wNext, wBreak, wCont, wDrop, wRet, wRetN, wIfS, wAsg, wPar, wLstOwn, wAppend, wSetOwn, wIxOwn, wPeek, wRetOwn, wRetFr, wFor, wB, wNot, wAnd, wOr, wAndV, wOrV, wNotV, wIf, wChain, wNil, wCons, wCB, wTup, wLst, wNoPart, wPart, wSlT, wSlL, wSeq, wRng1, wRng2, wZip, wName, wNilT, wConsT, wTupT, wYes, wNeg, wVar, wC, wOp, wcNil, wcCons, wcOwn, wCall, wCallOwn, slots, cellsOf, OwnArgs, putBack, g2I, g2IC, gLen, gAbs, gGcd, gInt1, gTupleOf, gListOf, gIx, gCatT, gCat, gEq, gNe, gIsN, gNotN, scD, seqD_t, seqD_l, seqD_f, isNonD, List.nodup_cons, List.mem_cons, List.not_mem_nil, or_false, not_false_eq_true, Nat.reduceEqDiff, L3.Keeps, ends, wipeD, List.replicate, List.cons_append, List.nil_append, List.append_nil, List.getElem?_cons_zero, List.getElem?_cons_succ, List.set_cons_zero, List.set_cons_succ, List.getD_cons_zero, List.getD_cons_succ, List.length_cons, List.length_nil, List.nodup_nil, Option.some.injEq, Cell.dat.injEq, Cell.own.injEq, Cont.lst.injEq, D.bl.injEq, D.int.injEq, D.str.injEq, D.tup.injEq, D.lst.injEq, Arg.d.injEq, List.cons.injEq, exists_and_left, exists_and_right, exists_eq_left', exists_eq_left, exists_eq_right, exists_eq_right', exists_eq, exists_eq', and_true, true_and, and_assoc, and_self, exists_const, reduceCtorEq]
    exact hq c es hc (by omega) he hs
theorem ok__law_widths (T : Txt K mg) : FnOk P w K mg base (L2.CX P w) 3 T.f__law_widths T.fd__law_widths ["source", "many", "seas"] (spOf K 3 (fs__law_widths K)) := by
  refine def_ok T.F__law_widths sc__law_widths (wb := w__law_widths K) pure__law_widths ?_
  intro cdv A outer s H E hr tk
  exact ⟨_, (pss_cons (ps_set (i := 3) sc__law_widths.nd rfl (by first | exact Or.inl rfl | exact Or.inr rfl) (pe_callS (ok__law_draw T) (hr.mono (by decide)) rfl T.g__law_draw T.k__law_draw T.b__law_draw (fun σ => passAt tk σ) (pa_cons (pv 0) (pa_cons pe_int pa_nil))))
      (pss_cons (ps_set (i := 4) sc__law_widths.nd rfl (by first | exact Or.inl rfl | exact Or.inr rfl) (pe_op op_add pe_int (pe_callS (ok__law_draw T) (hr.mono (by decide)) rfl T.g__law_draw T.k__law_draw T.b__law_draw (fun σ => passAt tk σ) (pa_cons (pv 0) (pa_cons pe_int pa_nil)))))
      (pss_cons (ps_set (i := 5) sc__law_widths.nd rfl (by first | exact Or.inl rfl | exact Or.inr rfl) (pe_lst pa_nil))
      (pss_cons (ps_for (passes_of rfl) rfl (pi_range1 (by rfl) T.z_range (pa_cons (pv 1) pa_nil)) (pg_name (i := 6) sc__law_widths.nd rfl (by first | exact Or.inl rfl | exact Or.inr rfl))
        (pss_one (ps_if (PW.pt (pw_and (pt_val (pv 2)) (pw_and1 (pt_cmpR op_eq (pe_callS (ok__law_draw T) (hr.mono (by decide)) rfl T.g__law_draw T.k__law_draw T.b__law_draw (fun σ => passAt tk σ) (pa_cons (pv 0) (pa_cons pe_int pa_nil))) pe_int (nomark _)))))
        (pss_one (ps_expr (pe_bm PySem.F.plainAttrs_list PySem.F.slot_list_append PySem.F.type_list_append mt_append (pv 5) (pa_cons pe_int pa_nil))))
        (pss_one (ps_if (pt_cmpR op_eq (pv 3) pe_int (nomark _))
        (pss_one (ps_expr (pe_bm PySem.F.plainAttrs_list PySem.F.slot_list_append PySem.F.type_list_append mt_append (pv 5) (pa_cons (pe_op op_add pe_int (pe_callS (ok__law_draw T) (hr.mono (by decide)) rfl T.g__law_draw T.k__law_draw T.b__law_draw (fun σ => passAt tk σ) (pa_cons (pv 0) (pa_cons pe_int pa_nil)))) pa_nil))))
        (pss_one (ps_if (pt_cmpR op_eq (pv 3) pe_int (nomark _))
        (pss_one (ps_expr (pe_bm PySem.F.plainAttrs_list PySem.F.slot_list_append PySem.F.type_list_append mt_append (pv 5) (pa_cons (pe_op op_add pe_int (pe_callS (ok__law_draw T) (hr.mono (by decide)) rfl T.g__law_draw T.k__law_draw T.b__law_draw (fun σ => passAt tk σ) (pa_cons (pv 0) (pa_cons pe_int pa_nil)))) pa_nil))))
        (pss_one (ps_expr (pe_bm PySem.F.plainAttrs_list PySem.F.slot_list_append PySem.F.type_list_append mt_append (pv 5) (pa_cons (pv 4) pa_nil)))))))))))
      (pss_one (ps_ret (pe_callTy call_tuple_of (by rfl) T.z_tuple (by decide +kernel) (pa_cons (pv 5) pa_nil)))))))),
    (ds_seq (ds_asg (de_call (n := 2) (fs := fs__law_draw K) (dac_own (j := 0) (dac_cons de_int dac_nil))) (dg_name 3))
      (ds_seq (ds_asg (de_op o_add de_int (de_call (n := 2) (fs := fs__law_draw K) (dac_own (j := 0) (dac_cons de_int dac_nil)))) (dg_name 4))
      (ds_seq (ds_lstOwn (i := 5) da_nil)
      (ds_seq (ds_for (wI := (wRng1 (wCons (wVar 1) wNil))) (wg := (wName 6)) (wb := (wIfS (wAnd (wB (wVar 2)) (wB (wOp gEq (wCall 2 (fs__law_draw K) (wcOwn 0 (wcCons (wC (.int 5)) wcNil))) (wC (.int 0))))) (wAppend 5 (wCons (wC (.int 0)) wNil)) (wIfS (wB (wOp gEq (wVar 3) (wC (.int 0)))) (wAppend 5 (wCons (wOp gAddI (wC (.int 1)) (wCall 2 (fs__law_draw K) (wcOwn 0 (wcCons (wC (.int 12)) wcNil)))) wNil)) (wIfS (wB (wOp gEq (wVar 3) (wC (.int 1)))) (wAppend 5 (wCons (wOp gAddI (wC (.int 1)) (wCall 2 (fs__law_draw K) (wcOwn 0 (wcCons (wC (.int 3)) wcNil)))) wNil)) (wAppend 5 (wCons (wVar 4) wNil)))))) (di_rng1 (da_cons (de_var 1) da_nil)) (dg_name 6) (ds_if (dt_and (dt_B (de_var 2)) (dt_B (de_op o_eq (de_call (n := 2) (fs := fs__law_draw K) (dac_own (j := 0) (dac_cons de_int dac_nil))) de_int))) (ds_append (i := 5) (da_cons de_int da_nil)) (ds_if (dt_B (de_op o_eq (de_var 3) de_int)) (ds_append (i := 5) (da_cons (de_op o_add de_int (de_call (n := 2) (fs := fs__law_draw K) (dac_own (j := 0) (dac_cons de_int dac_nil)))) da_nil)) (ds_if (dt_B (de_op o_eq (de_var 3) de_int)) (ds_append (i := 5) (da_cons (de_op o_add de_int (de_call (n := 2) (fs := fs__law_draw K) (dac_own (j := 0) (dac_cons de_int dac_nil)))) da_nil)) (ds_append (i := 5) (da_cons (de_var 4) da_nil))))))
      (ds_ret (de_peek (i := 5) p_tupleOf))))))⟩
abbrev s__law_pipe : Stmt := topS 46
theorem sc__law_pipe : FnScope ["source", "vessels", "most", "wide", "other"] ["source", "vessels", "most", "wide"] (defScope s__law_pipe) := ⟨rfl, rfl, rfl, by decide +kernel, rfl, by decide +kernel, by decide +kernel⟩
def w__law_pipe (K : PySem.W.Frag) : SW := (wSq (wAsg (wOp gAddI (wC (.int 1)) (wCall 2 (fs__law_draw K) (wcOwn 0 (wcCons (wOp gSubI (wVar 1) (wC (.int 1))) wcNil)))) (wName 4))
  (wRet (wTup (wCons (wCall 2 (fs__law_draw K) (wcOwn 0 (wcCons (wVar 4) wcNil))) (wCons (wVar 4) (wCons (wCall 3 (fs__law_steps K) (wcOwn 0 (wcCons (wVar 2) (wcCons (wVar 3) wcNil)))) wNil))))))
/-- a pipe that is drawn -/
def PipD (v : Int) (d : D) : Prop := ∃ (a b : Int) (es : List D), d = .tup [.int a, .int b, .tup es] ∧ 0 ≤ a ∧ a < b ∧ b < v ∧ StepsD es
theorem pipD_pi {v : Int} {d : D} (h : PipD v d) : isPi v d = true := by
  obtain ⟨a, b, es, rfl, h1, h2, h3, h4⟩ := h
  simp [isPi, stepsD_li h4, isBetw]
  omega
def fs__law_pipe (K : PySem.W.Frag) : FS := fun cs q _ => ∃ (p : Addr) (c : Cont) (v m : Int) (w : Bool), cs = [.own p c, .dat (.int v), .dat (.int m), .dat (.bl w)] ∧ SrcC c ∧ 2 ≤ v ∧ v ≤ 100 ∧ 1 ≤ m ∧ m ≤ 6 ∧ ∀ (c' : Cont) (x : D), SrcC c' → PipD v x → q x [.own p c', .dat (.int v), .dat (.int m), .dat (.bl w)]
theorem pure__law_pipe : PureD 4 1 (fs__law_pipe K) (w__law_pipe K) := by
  rintro cs q e - ⟨p, c, v, m, w, rfl, hc, v2, v1, m1, m6, hq⟩
  simp only [w__law_pipe, fs__law_draw, fs__law_steps, wListRg1, wListRg2, wRngDown, wZipK, gInL, gNotInT, wCatOwn, gIsB, gNotB, D.adr.injEq, Cont.pool.injEq, ixN31, ne_eq, List.map_cons, List.map_nil, wPoolOpen, wPoolClose, wPop0, wPopTo, wListOwn, wRemove, wRaise0, wRaise1, wAugOwn, wEnumL, wTru, wSlA, gCatA, gLtT, gLeT, wFrz, wChain3, wAttr, wMkF, wEnumT, wRevT, wDict0, wDict1, numD3, Nat.reduceAdd, atI0, atI1, atI2, atI3, atI4, ixN51, ixN52, ixN53, List.length_map, wNever, scal, V.int.injEq, V.str.injEq, V.bl.injEq, wSq, wNext, wBreak, wCont, wDrop, wRet, wRetN, wIfS, wAsg, wPar, wLstOwn, wAppend, wSetOwn, wIxOwn, wPeek, wRetOwn, wRetFr, wFor, wB, wNot, wAnd, wOr, wAndV, wOrV, wNotV, wIf, wChain, wNil, wCons, wCB, wTup, wLst, wNoPart, wPart, wSlT, wSlL, wSeq, wRng1, wRng2, wZip, wName, wNilT, wConsT, wTupT, wYes, wNeg, wVar, wC, wOp, wcNil, wcCons, wcOwn, wCall, wCallOwn, slots, cellsOf, OwnArgs, putBack, g2I, g2IC, gLen, gAbs, gGcd, gInt1, gTupleOf, gListOf, gIx, gCatT, gCat, gEq, gNe, gIsN, gNotN, scD, seqD_t, seqD_l, seqD_f, isNonD, List.nodup_cons, List.mem_cons, List.not_mem_nil, or_false, not_false_eq_true, Nat.reduceEqDiff, L3.Keeps, ends, wipeD, List.replicate, List.cons_append, List.nil_append, List.append_nil, List.getElem?_cons_zero, List.getElem?_cons_succ, List.set_cons_zero, List.set_cons_succ, List.getD_cons_zero, List.getD_cons_succ, List.length_cons, List.length_nil, List.nodup_nil, Option.some.injEq, Cell.dat.injEq, Cell.own.injEq, Cont.lst.injEq, D.bl.injEq, D.int.injEq, D.str.injEq, D.tup.injEq, D.lst.injEq, Arg.d.injEq, List.cons.injEq, exists_and_left, exists_and_right, exists_eq_left', exists_eq_left, exists_eq_right, exists_eq_right', exists_eq, exists_eq', and_true, true_and, and_assoc, and_self, exists_const, reduceCtorEq]
  refine ⟨hc, by omega, by omega, fun c1 n hc1 n0 n1 => ⟨hc1, by omega, by omega, fun c2 k hc2 k0 k1 => ⟨hc2, m1, m6, fun c3 es hc3 hl hs => ⟨by decide, ?_⟩⟩⟩⟩
  exact hq c3 _ hc3 ⟨k, 1 + n, es, rfl, k0, k1, by omega, hs⟩
theorem ok__law_pipe (T : Txt K mg) : FnOk P w K mg base (L2.CX P w) 5 T.f__law_pipe T.fd__law_pipe ["source", "vessels", "most", "wide"] (spOf K 4 (fs__law_pipe K)) := by
  refine def_ok T.F__law_pipe sc__law_pipe (wb := w__law_pipe K) pure__law_pipe ?_
  intro cdv A outer s H E hr tk
  exact ⟨_, (pss_cons (ps_set (i := 4) sc__law_pipe.nd rfl (by first | exact Or.inl rfl | exact Or.inr rfl) (pe_op op_add pe_int (pe_callS (ok__law_draw T) (hr.mono (by decide)) rfl T.g__law_draw T.k__law_draw T.b__law_draw (fun σ => passAt tk σ) (pa_cons (pv 0) (pa_cons (pe_op op_sub (pv 1) pe_int) pa_nil)))))
      (pss_one (ps_ret (pe_tup (pa_cons (pe_callS (ok__law_draw T) (hr.mono (by decide)) rfl T.g__law_draw T.k__law_draw T.b__law_draw (fun σ => passAt tk σ) (pa_cons (pv 0) (pa_cons (pv 4) pa_nil))) (pa_cons (pv 4) (pa_cons (pe_callS (ok__law_steps T) (hr.mono (by decide)) rfl T.g__law_steps T.k__law_steps T.b__law_steps (fun σ => passAt tk σ) (pa_cons (pv 0) (pa_cons (pv 2) (pa_cons (pv 3) pa_nil)))) pa_nil))))))),
    (ds_seq (ds_asg (de_op o_add de_int (de_call (n := 2) (fs := fs__law_draw K) (dac_own (j := 0) (dac_cons (de_op o_sub (de_var 1) de_int) dac_nil)))) (dg_name 4))
      (ds_ret (de_tup (da_cons (de_call (n := 2) (fs := fs__law_draw K) (dac_own (j := 0) (dac_cons (de_var 4) dac_nil))) (da_cons (de_var 4) (da_cons (de_call (n := 3) (fs := fs__law_steps K) (dac_own (j := 0) (dac_cons (de_var 2) (dac_cons (de_var 3) dac_nil)))) da_nil))))))⟩
abbrev s__law_pipes : Stmt := topS 47
theorem sc__law_pipes : FnScope ["source", "vessels", "many", "most", "wide", "found", "k", "kind", "last"] ["source", "vessels", "many", "most", "wide"] (defScope s__law_pipes) := ⟨rfl, rfl, rfl, by decide +kernel, rfl, by decide +kernel, by decide +kernel⟩
def l1__law_pipes (K : PySem.W.Frag) : SW := wFor (wRng1 (wCons (wVar 2) wNil)) (wName 6) (wIfS (wB (wOp gGtI (wVar 1) (wC (.int 1)))) (wSq (wAsg (wCall 2 (fs__law_draw K) (wcOwn 0 (wcCons (wC (.int 6)) wcNil))) (wName 7))
  (wIfS (wAnd (wB (wOp gEq (wVar 7) (wC (.int 0)))) (wB (wOp gGtI (wVar 6) (wC (.int 0))))) (wAppend 5 (wCons (wCall 2 (fs__law_pick_o1 K) (wcOwn 0 (wcOwn 5 wcNil))) wNil)) (wIfS (wAnd (wB (wOp gEq (wVar 7) (wC (.int 1)))) (wB (wOp gGtI (wVar 6) (wC (.int 0))))) (wSq (wAsg (wCall 2 (fs__law_pick_o1 K) (wcOwn 0 (wcOwn 5 wcNil))) (wName 8))
  (wAppend 5 (wCons (wTup (wCons (wOp gIx (wVar 8) (wC (.int 0))) (wCons (wOp gIx (wVar 8) (wC (.int 1))) (wCons (wCall 3 (fs__law_steps K) (wcOwn 0 (wcCons (wVar 3) (wcCons (wVar 4) wcNil)))) wNil)))) wNil))) (wAppend 5 (wCons (wCall 4 (fs__law_pipe K) (wcOwn 0 (wcCons (wVar 1) (wcCons (wVar 3) (wcCons (wVar 4) wcNil))))) wNil))))) wNext)
def w__law_pipes (K : PySem.W.Frag) : SW := (wSq (wLstOwn 5 wNil)
  (wSq (l1__law_pipes K)
  (wRet (wPeek 5 (fun es q => q (.tup es))))))
def fs__law_pipes (K : PySem.W.Frag) : FS := fun cs q _ => ∃ (p : Addr) (c : Cont) (v n m : Int) (w : Bool), cs = [.own p c, .dat (.int v), .dat (.int n), .dat (.int m), .dat (.bl w)] ∧ SrcC c ∧ v ≤ 100 ∧ 0 ≤ n ∧ n ≤ 100 ∧ 1 ≤ m ∧ m ≤ 6 ∧ ∀ (c' : Cont) (es : List D), SrcC c' → (es.length : Int) ≤ n → (∀ d ∈ es, PipD v d) → q (.tup es) [.own p c', .dat (.int v), .dat (.int n), .dat (.int m), .dat (.bl w)]
def InvPp (p0 p : Addr) (v n m : Int) (w : Bool) (i : Nat) (τ : List Cell) : Prop := ∃ (c : Cont) (es : List D) (c6 c7 c8 : Cell), τ = [.own p0 c, .dat (.int v), .dat (.int n), .dat (.int m), .dat (.bl w), .own p (.lst es), c6, c7, c8] ∧ SrcC c ∧ es.length ≤ i ∧ (2 ≤ v → es.length = i) ∧ ∀ d ∈ es, PipD v d
theorem pure__law_pipes : PureD 5 4 (fs__law_pipes K) (w__law_pipes K) := by
  rintro cs q e - ⟨p0, c, v, n, m, w, rfl, hc, v1, n0, n1, m1, m6, hq⟩
  simp only [w__law_pipes, wListRg1, wListRg2, wRngDown, wZipK, gInL, gNotInT, wCatOwn, gIsB, gNotB, D.adr.injEq, Cont.pool.injEq, ixN31, ne_eq, List.map_cons, List.map_nil, wPoolOpen, wPoolClose, wPop0, wPopTo, wListOwn, wRemove, wRaise0, wRaise1, wAugOwn, wEnumL, wTru, wSlA, gCatA, gLtT, gLeT, wFrz, wChain3, wAttr, wMkF, wEnumT, wRevT, wDict0, wDict1, numD3, Nat.reduceAdd, atI0, atI1, atI2, atI3, atI4, ixN51, ixN52, ixN53, List.length_map, wNever, scal, V.int.injEq, V.str.injEq, V.bl.injEq, wSq, wNext, wBreak, wCont, wDrop, wRet, wRetN, wIfS, wAsg, wPar, wLstOwn, wAppend, wSetOwn, wIxOwn, wPeek, wRetOwn, wRetFr, wFor, wB, wNot, wAnd, wOr, wAndV, wOrV, wNotV, wIf, wChain, wNil, wCons, wCB, wTup, wLst, wNoPart, wPart, wSlT, wSlL, wSeq, wRng1, wRng2, wZip, wName, wNilT, wConsT, wTupT, wYes, wNeg, wVar, wC, wOp, wcNil, wcCons, wcOwn, wCall, wCallOwn, slots, cellsOf, OwnArgs, putBack, g2I, g2IC, gLen, gAbs, gGcd, gInt1, gTupleOf, gListOf, gIx, gCatT, gCat, gEq, gNe, gIsN, gNotN, scD, seqD_t, seqD_l, seqD_f, isNonD, List.nodup_cons, List.mem_cons, List.not_mem_nil, or_false, not_false_eq_true, Nat.reduceEqDiff, L3.Keeps, ends, wipeD, List.replicate, List.cons_append, List.nil_append, List.append_nil, List.getElem?_cons_zero, List.getElem?_cons_succ, List.set_cons_zero, List.set_cons_succ, List.getD_cons_zero, List.getD_cons_succ, List.length_cons, List.length_nil, List.nodup_nil, Option.some.injEq, Cell.dat.injEq, Cell.own.injEq, Cont.lst.injEq, D.bl.injEq, D.int.injEq, D.str.injEq, D.tup.injEq, D.lst.injEq, Arg.d.injEq, List.cons.injEq, exists_and_left, exists_and_right, exists_eq_left', exists_eq_left, exists_eq_right, exists_eq_right', exists_eq, exists_eq', and_true, true_and, and_assoc, and_self, exists_const, reduceCtorEq]
  refine ⟨by decide, fun p => ?_⟩
  unfold l1__law_pipes wFor
  refine ⟨_, rfl, n, rfl, by omega, by omega, InvPp p0 p v n m w, ⟨c, [], _, _, _, rfl, hc, by simp, fun _ => rfl, fun d h => by simp at h⟩, ?_, ?_⟩
  · rintro i d τ2 hi ⟨c, es, c6, c7, c8, rfl, hc, hl, hl2, he⟩
    have hlt : i < n.toNat := by
      have := (List.getElem?_eq_some_iff.mp hi).1
      rwa [rangeD_length] at this
    rw [rangeD_get hlt] at hi
    cases hi
    have mk : ∀ (c' : Cont) (x : D) (c7 c8 : Cell), 2 ≤ v → SrcC c' → PipD v x → es.length < 1000 ∧ InvPp p0 p v n m w (i + 1) [.own p0 c', .dat (.int v), .dat (.int n), .dat (.int m), .dat (.bl w), .own p (.lst (es ++ [x])), .dat (.int (0 + (i : Nat))), c7, c8] := fun c' x c7 c8 v2 hc' hx => by
      have := hl2 v2
      exact ⟨by omega, c', es ++ [x], _, c7, c8, rfl, hc', by rw [List.length_append]; simp; omega, fun _ => by rw [List.length_append]; simp; omega, all_snoc he hx⟩
    by_cases v2 : 1 < v
    · have hl2 := hl2 (by omega)
      have piece : ∀ c', SrcC c' → ∀ c7 c8 : Cell, SrcC c' ∧ 2 ≤ v ∧ v ≤ 100 ∧ 1 ≤ m ∧ m ≤ 6 ∧ ∀ (c'' : Cont) (x : D), SrcC c'' → PipD v x → es.length < 1000 ∧ InvPp p0 p v n m w (i + 1) [.own p0 c'', .dat (.int v), .dat (.int n), .dat (.int m), .dat (.bl w), .own p (.lst (es ++ [x])), .dat (.int (0 + (i : Nat))), c7, c8] := fun c' hc' c7 c8 =>
        ⟨hc', by omega, v1, m1, m6, fun c'' x hc'' hx => mk c'' x _ _ (by omega) hc'' hx⟩
      have e1 : decide (1 < v) = true := decide_eq_true v2
      simp only [fs__law_draw, fs__law_pick_o1, fs__law_pipe, fs__law_steps, e1, wListRg1, wListRg2, wRngDown, wZipK, gInL, gNotInT, wCatOwn, gIsB, gNotB, D.adr.injEq, Cont.pool.injEq, ixN31, ne_eq, List.map_cons, List.map_nil, wPoolOpen, wPoolClose, wPop0, wPopTo, wListOwn, wRemove, wRaise0, wRaise1, wAugOwn, wEnumL, wTru, wSlA, gCatA, gLtT, gLeT, wFrz, wChain3, wAttr, wMkF, wEnumT, wRevT, wDict0, wDict1, numD3, Nat.reduceAdd, atI0, atI1, atI2, atI3, atI4, ixN51, ixN52, ixN53, List.length_map, wNever, scal, V.int.injEq, V.str.injEq, V.bl.injEq, wSq, wNext, wBreak, wCont, wDrop, wRet, wRetN, wIfS, wAsg, wPar, wLstOwn, wAppend, wSetOwn, wIxOwn, wPeek, wRetOwn, wRetFr, wFor, wB, wNot, wAnd, wOr, wAndV, wOrV, wNotV, wIf, wChain, wNil, wCons, wCB, wTup, wLst, wNoPart, wPart, wSlT, wSlL, wSeq, wRng1, wRng2, wZip, wName, wNilT, wConsT, wTupT, wYes, wNeg, wVar, wC, wOp, wcNil, wcCons, wcOwn, wCall, wCallOwn, slots, cellsOf, OwnArgs, putBack, g2I, g2IC, gLen, gAbs, gGcd, gInt1, gTupleOf, gListOf, gIx, gCatT, gCat, gEq, gNe, gIsN, gNotN, scD, seqD_t, seqD_l, seqD_f, isNonD, List.nodup_cons, List.mem_cons, List.not_mem_nil, or_false, not_false_eq_true, Nat.reduceEqDiff, L3.Keeps, ends, wipeD, List.replicate, List.cons_append, List.nil_append, List.append_nil, List.getElem?_cons_zero, List.getElem?_cons_succ, List.set_cons_zero, List.set_cons_succ, List.getD_cons_zero, List.getD_cons_succ, List.length_cons, List.length_nil, List.nodup_nil, Option.some.injEq, Cell.dat.injEq, Cell.own.injEq, Cont.lst.injEq, D.bl.injEq, D.int.injEq, D.str.injEq, D.tup.injEq, D.lst.injEq, Arg.d.injEq, List.cons.injEq, exists_and_left, exists_and_right, exists_eq_left', exists_eq_left, exists_eq_right, exists_eq_right', exists_eq, exists_eq', and_true, true_and, and_assoc, and_self, exists_const, reduceCtorEq]
      simp only [true_implies, Bool.true_eq_false, false_implies, and_true]
      refine ⟨hc, by decide, by decide, fun c1 k hc1 k0 k6 => ?_⟩
      have B : ∀ c7 c8 : Cell, SrcC c1 ∧ 2 ≤ v ∧ v ≤ 100 ∧ 1 ≤ m ∧ m ≤ 6 ∧ ∀ (c'' : Cont) (x : D), SrcC c'' → PipD v x → es.length < 1000 ∧ InvPp p0 p v n m w (i + 1) [.own p0 c'', .dat (.int v), .dat (.int n), .dat (.int m), .dat (.bl w), .own p (.lst (es ++ [x])), .dat (.int (0 + (i : Nat))), c7, c8] := piece c1 hc1
      cases h2 : decide ((0 : Int) < 0 + (i : Nat)) with
      | false => cases h0 : decide (k = 0) <;> cases h1 : decide (k = 1) <;> simp only [true_implies, false_implies, Bool.false_eq_true, Bool.true_eq_false, reduceCtorEq, and_true, true_and] <;> exact B _ _
      | true =>
        have i0 : 0 < i := by
          have := of_decide_eq_true h2
          omega
        have A : SrcC c1 ∧ 0 < es.length ∧ es.length ≤ 1000 ∧ ∀ (c' : Cont) (x : D), SrcC c' → x ∈ es → es.length < 1000 ∧ InvPp p0 p v n m w (i + 1) [.own p0 c', .dat (.int v), .dat (.int n), .dat (.int m), .dat (.bl w), .own p (.lst (es ++ [x])), .dat (.int (0 + (i : Nat))), .dat (.int k), c8] :=
          ⟨hc1, by omega, by omega, fun c2 x hc2 hx => mk c2 x _ _ (by omega) hc2 (he x hx)⟩
        cases h0 : decide (k = 0) <;> cases h1 : decide (k = 1) <;> simp only [true_implies, false_implies, Bool.false_eq_true, Bool.true_eq_false, reduceCtorEq, and_true, true_and]
        · exact B _ _
        · refine ⟨hc1, by omega, by omega, fun c2 x hc2 hx => ?_⟩
          obtain ⟨a, b, gs, rfl, a0, ab, bv, hs⟩ := he x hx
          refine ⟨_, rfl, _, atI0, _, rfl, _, atI1, hc2, m1, m6, fun c3 es3 hc3 hl3 hs3 => ⟨by decide, ?_⟩⟩
          exact mk c3 _ _ _ (by omega) hc3 ⟨a, b, es3, rfl, a0, ab, bv, hs3⟩
        · exact A
        · exact A
    · have e1 : decide (1 < v) = false := decide_eq_false v2
      simp only [e1, wListRg1, wListRg2, wRngDown, wZipK, gInL, gNotInT, wCatOwn, gIsB, gNotB, D.adr.injEq, Cont.pool.injEq, ixN31, ne_eq, List.map_cons, List.map_nil, wPoolOpen, wPoolClose, wPop0, wPopTo, wListOwn, wRemove, wRaise0, wRaise1, wAugOwn, wEnumL, wTru, wSlA, gCatA, gLtT, gLeT, wFrz, wChain3, wAttr, wMkF, wEnumT, wRevT, wDict0, wDict1, numD3, Nat.reduceAdd, atI0, atI1, atI2, atI3, atI4, ixN51, ixN52, ixN53, List.length_map, wNever, scal, V.int.injEq, V.str.injEq, V.bl.injEq, wSq, wNext, wBreak, wCont, wDrop, wRet, wRetN, wIfS, wAsg, wPar, wLstOwn, wAppend, wSetOwn, wIxOwn, wPeek, wRetOwn, wRetFr, wFor, wB, wNot, wAnd, wOr, wAndV, wOrV, wNotV, wIf, wChain, wNil, wCons, wCB, wTup, wLst, wNoPart, wPart, wSlT, wSlL, wSeq, wRng1, wRng2, wZip, wName, wNilT, wConsT, wTupT, wYes, wNeg, wVar, wC, wOp, wcNil, wcCons, wcOwn, wCall, wCallOwn, slots, cellsOf, OwnArgs, putBack, g2I, g2IC, gLen, gAbs, gGcd, gInt1, gTupleOf, gListOf, gIx, gCatT, gCat, gEq, gNe, gIsN, gNotN, scD, seqD_t, seqD_l, seqD_f, isNonD, List.nodup_cons, List.mem_cons, List.not_mem_nil, or_false, not_false_eq_true, Nat.reduceEqDiff, L3.Keeps, ends, wipeD, List.replicate, List.cons_append, List.nil_append, List.append_nil, List.getElem?_cons_zero, List.getElem?_cons_succ, List.set_cons_zero, List.set_cons_succ, List.getD_cons_zero, List.getD_cons_succ, List.length_cons, List.length_nil, List.nodup_nil, Option.some.injEq, Cell.dat.injEq, Cell.own.injEq, Cont.lst.injEq, D.bl.injEq, D.int.injEq, D.str.injEq, D.tup.injEq, D.lst.injEq, Arg.d.injEq, List.cons.injEq, exists_and_left, exists_and_right, exists_eq_left', exists_eq_left, exists_eq_right, exists_eq_right', exists_eq, exists_eq', and_true, true_and, and_assoc, and_self, exists_const, reduceCtorEq]
      simp only [true_implies, Bool.false_eq_true, false_implies, true_and]
      exact ⟨c, es, _, _, _, rfl, hc, by omega, fun z => absurd z (by omega), he⟩
  · rintro τ2 ⟨c, es, c6, c7, c8, rfl, hc, hl, _, he⟩
    rw [rangeD_length] at hl
    simp only [wListRg1, wListRg2, wRngDown, wZipK, gInL, gNotInT, wCatOwn, gIsB, gNotB, D.adr.injEq, Cont.pool.injEq, ixN31, ne_eq, List.map_cons, List.map_nil, wPoolOpen, wPoolClose, wPop0, wPopTo, wListOwn, wRemove, wRaise0, wRaise1, wAugOwn, wEnumL, wTru, wSlA, gCatA, gLtT, gLeT, wFrz, wChain3, wAttr, wMkF, wEnumT, wRevT, wDict0, wDict1, numD3, Nat.reduceAdd, atI0, atI1, atI2, atI3, atI4, ixN51, ixN52, ixN53, List.length_map, wNever, scal, V.int.injEq, V.str.injEq, V.bl.injEq, wSq, wNext, wBreak, wCont, wDrop, wRet, wRetN, wIfS, wAsg, wPar, wLstOwn, wAppend, wSetOwn, wIxOwn, wPeek, wRetOwn, wRetFr, wFor, wB, wNot, wAnd, wOr, wAndV, wOrV, wNotV, wIf, wChain, wNil, wCons, wCB, wTup, wLst, wNoPart, wPart, wSlT, wSlL, wSeq, wRng1, wRng2, wZip, wName, wNilT, wConsT, wTupT, wYes, wNeg, wVar, wC, wOp, wcNil, wcCons, wcOwn, wCall, wCallOwn, slots, cellsOf, OwnArgs, putBack, g2I, g2IC, gLen, gAbs, gGcd, gInt1, gTupleOf, gListOf, gIx, gCatT, gCat, gEq, gNe, gIsN, gNotN, scD, seqD_t, seqD_l, seqD_f, isNonD, List.nodup_cons, List.mem_cons, List.not_mem_nil, or_false, not_false_eq_true, Nat.reduceEqDiff, L3.Keeps, ends, wipeD, List.replicate, List.cons_append, List.nil_append, List.append_nil, List.getElem?_cons_zero, List.getElem?_cons_succ, List.set_cons_zero, List.set_cons_succ, List.getD_cons_zero, List.getD_cons_succ, List.length_cons, List.length_nil, List.nodup_nil, Option.some.injEq, Cell.dat.injEq, Cell.own.injEq, Cont.lst.injEq, D.bl.injEq, D.int.injEq, D.str.injEq, D.tup.injEq, D.lst.injEq, Arg.d.injEq, List.cons.injEq, exists_and_left, exists_and_right, exists_eq_left', exists_eq_left, exists_eq_right, exists_eq_right', exists_eq, exists_eq', and_true, true_and, and_assoc, and_self, exists_const, reduceCtorEq]
    exact hq c es hc (by omega) he
theorem ok__law_pipes (T : Txt K mg) : FnOk P w K mg base (L2.CX P w) 6 T.f__law_pipes T.fd__law_pipes ["source", "vessels", "many", "most", "wide"] (spOf K 5 (fs__law_pipes K)) := by
  refine def_ok T.F__law_pipes sc__law_pipes (wb := w__law_pipes K) pure__law_pipes ?_
  intro cdv A outer s H E hr tk
  exact ⟨_, (pss_cons (ps_set (i := 5) sc__law_pipes.nd rfl (by first | exact Or.inl rfl | exact Or.inr rfl) (pe_lst pa_nil))
      (pss_cons (ps_for (passes_of rfl) rfl (pi_range1 (by rfl) T.z_range (pa_cons (pv 2) pa_nil)) (pg_name (i := 6) sc__law_pipes.nd rfl (by first | exact Or.inl rfl | exact Or.inr rfl))
        (pss_one (ps_if (pt_cmpR op_gt (pv 1) pe_int (nomark _))
        (pss_cons (ps_set (i := 7) sc__law_pipes.nd rfl (by first | exact Or.inl rfl | exact Or.inr rfl) (pe_callS (ok__law_draw T) (hr.mono (by decide)) rfl T.g__law_draw T.k__law_draw T.b__law_draw (fun σ => passAt tk σ) (pa_cons (pv 0) (pa_cons pe_int pa_nil))))
      (pss_one (ps_if (PW.pt (pw_and (pt_cmpR op_eq (pv 7) pe_int (nomark _)) (pw_and1 (pt_cmpR op_gt (pv 6) pe_int (nomark _)))))
        (pss_one (ps_expr (pe_bm PySem.F.plainAttrs_list PySem.F.slot_list_append PySem.F.type_list_append mt_append (pv 5) (pa_cons (pe_callS (ok__law_pick_o1 T) (hr.mono (by decide)) rfl T.g__law_pick T.k__law_pick T.b__law_pick (fun σ => passAt tk σ) (pa_cons (pv 0) (pa_cons (pv 5) pa_nil))) pa_nil))))
        (pss_one (ps_if (PW.pt (pw_and (pt_cmpR op_eq (pv 7) pe_int (nomark _)) (pw_and1 (pt_cmpR op_gt (pv 6) pe_int (nomark _)))))
        (pss_cons (ps_set (i := 8) sc__law_pipes.nd rfl (by first | exact Or.inl rfl | exact Or.inr rfl) (pe_callS (ok__law_pick_o1 T) (hr.mono (by decide)) rfl T.g__law_pick T.k__law_pick T.b__law_pick (fun σ => passAt tk σ) (pa_cons (pv 0) (pa_cons (pv 5) pa_nil))))
      (pss_one (ps_expr (pe_bm PySem.F.plainAttrs_list PySem.F.slot_list_append PySem.F.type_list_append mt_append (pv 5) (pa_cons (pe_tup (pa_cons (pe_ix ix_seq (pv 8) pe_int (fun _ _ => rfl)) (pa_cons (pe_ix ix_seq (pv 8) pe_int (fun _ _ => rfl)) (pa_cons (pe_callS (ok__law_steps T) (hr.mono (by decide)) rfl T.g__law_steps T.k__law_steps T.b__law_steps (fun σ => passAt tk σ) (pa_cons (pv 0) (pa_cons (pv 3) (pa_cons (pv 4) pa_nil)))) pa_nil)))) pa_nil)))))
        (pss_one (ps_expr (pe_bm PySem.F.plainAttrs_list PySem.F.slot_list_append PySem.F.type_list_append mt_append (pv 5) (pa_cons (pe_callS (ok__law_pipe T) (hr.mono (by decide)) rfl T.g__law_pipe T.k__law_pipe T.b__law_pipe (fun σ => passAt tk σ) (pa_cons (pv 0) (pa_cons (pv 1) (pa_cons (pv 3) (pa_cons (pv 4) pa_nil))))) pa_nil)))))))))
        pss_nil)))
      (pss_one (ps_ret (pe_callTy call_tuple_of (by rfl) T.z_tuple (by decide +kernel) (pa_cons (pv 5) pa_nil)))))),
    (ds_seq (ds_lstOwn (i := 5) da_nil)
      (ds_seq (ds_for (wI := (wRng1 (wCons (wVar 2) wNil))) (wg := (wName 6)) (wb := (wIfS (wB (wOp gGtI (wVar 1) (wC (.int 1)))) (wSq (wAsg (wCall 2 (fs__law_draw K) (wcOwn 0 (wcCons (wC (.int 6)) wcNil))) (wName 7))
  (wIfS (wAnd (wB (wOp gEq (wVar 7) (wC (.int 0)))) (wB (wOp gGtI (wVar 6) (wC (.int 0))))) (wAppend 5 (wCons (wCall 2 (fs__law_pick_o1 K) (wcOwn 0 (wcOwn 5 wcNil))) wNil)) (wIfS (wAnd (wB (wOp gEq (wVar 7) (wC (.int 1)))) (wB (wOp gGtI (wVar 6) (wC (.int 0))))) (wSq (wAsg (wCall 2 (fs__law_pick_o1 K) (wcOwn 0 (wcOwn 5 wcNil))) (wName 8))
  (wAppend 5 (wCons (wTup (wCons (wOp gIx (wVar 8) (wC (.int 0))) (wCons (wOp gIx (wVar 8) (wC (.int 1))) (wCons (wCall 3 (fs__law_steps K) (wcOwn 0 (wcCons (wVar 3) (wcCons (wVar 4) wcNil)))) wNil)))) wNil))) (wAppend 5 (wCons (wCall 4 (fs__law_pipe K) (wcOwn 0 (wcCons (wVar 1) (wcCons (wVar 3) (wcCons (wVar 4) wcNil))))) wNil))))) wNext)) (di_rng1 (da_cons (de_var 2) da_nil)) (dg_name 6) (ds_if (dt_B (de_op o_gt (de_var 1) de_int)) (ds_seq (ds_asg (de_call (n := 2) (fs := fs__law_draw K) (dac_own (j := 0) (dac_cons de_int dac_nil))) (dg_name 7))
      (ds_if (dt_and (dt_B (de_op o_eq (de_var 7) de_int)) (dt_B (de_op o_gt (de_var 6) de_int))) (ds_append (i := 5) (da_cons (de_call (n := 2) (fs := fs__law_pick_o1 K) (dac_own (j := 0) (dac_own (j := 5) dac_nil))) da_nil)) (ds_if (dt_and (dt_B (de_op o_eq (de_var 7) de_int)) (dt_B (de_op o_gt (de_var 6) de_int))) (ds_seq (ds_asg (de_call (n := 2) (fs := fs__law_pick_o1 K) (dac_own (j := 0) (dac_own (j := 5) dac_nil))) (dg_name 8))
      (ds_append (i := 5) (da_cons (de_tup (da_cons (de_op o_ix (de_var 8) de_int) (da_cons (de_op o_ix (de_var 8) de_int) (da_cons (de_call (n := 3) (fs := fs__law_steps K) (dac_own (j := 0) (dac_cons (de_var 3) (dac_cons (de_var 4) dac_nil)))) da_nil)))) da_nil))) (ds_append (i := 5) (da_cons (de_call (n := 4) (fs := fs__law_pipe K) (dac_own (j := 0) (dac_cons (de_var 1) (dac_cons (de_var 3) (dac_cons (de_var 4) dac_nil))))) da_nil))))) ds_nil))
      (ds_ret (de_peek (i := 5) p_tupleOf))))⟩
abbrev s__law_with : Stmt := topS 48
theorem sc__law_with : FnScope ["row", "place", "thing"] ["row", "place", "thing"] (defScope s__law_with) := ⟨rfl, rfl, rfl, by decide +kernel, rfl, by decide +kernel, by decide +kernel⟩
def w__law_with (K : PySem.W.Frag) : SW := (wRet (wCB gTupleOf (wCons (wOp gCat (wOp gCat (wCB gListOf (wCons (wSlA (wVar 0) wNoPart (wPart (wVar 1))) wNil)) (wLst (wCons (wVar 2) wNil))) (wCB gListOf (wCons (wSlA (wVar 0) (wPart (wOp gAddI (wVar 1) (wC (.int 1)))) wNoPart) wNil))) wNil)))
def fs__law_with (K : PySem.W.Frag) : FS := fun cs q _ => ∃ (ds : List D) (n : Int) (d : D), cs = [.dat (.tup ds), .dat (.int n), .dat d] ∧ 0 ≤ n ∧ n < ds.length ∧ ds.length ≤ 100 ∧ q (.tup (ds.set n.toNat d)) cs
theorem cut_sub {es : List D} {lo hi : Option Int} : (cutDs es lo hi).length ≤ es.length ∧ ∀ x ∈ cutDs es lo hi, x ∈ es := by
  unfold cutDs
  refine ⟨?_, fun x hx => List.mem_of_mem_drop (List.mem_of_mem_take hx)⟩
  rw [List.length_take, List.length_drop]
  omega
theorem sIx_nat' (n d k : Nat) : HT.sIx n d (some (k : Int)) = min k n := HT.sIx_nat n d k
theorem cut_take {ds : List D} {k : Nat} : cutDs ds none (some (k : Int)) = ds.take k := by
  unfold cutDs
  rw [sIx_nat', HT.sIx_none, List.drop_zero, Nat.sub_zero]
  rw [Nat.min_def]
  split
  · rfl
  · rw [List.take_of_length_le (Nat.le_refl _), List.take_of_length_le (by omega)]
theorem cut_drop {ds : List D} {k : Nat} : cutDs ds (some (k : Int)) none = ds.drop k := by
  unfold cutDs
  rw [sIx_nat', HT.sIx_none]
  rw [List.take_of_length_le (by rw [List.length_drop]; exact Nat.le_refl _), Nat.min_def]
  split
  · rfl
  · rw [List.drop_eq_nil_of_le (Nat.le_refl _), List.drop_eq_nil_of_le (by omega)]
theorem pure__law_with : PureD 3 0 (fs__law_with K) (w__law_with K) := by
  rintro cs q e - ⟨ds, n, d, rfl, h0, h1, h2, hq⟩
  obtain ⟨k, rfl⟩ := Int.eq_ofNat_of_zero_le h0
  have w1 : ¬ (HT.sIx ds.length 0 none = 0 ∧ HT.sIx ds.length ds.length (some (k : Int)) = ds.length) := fun ⟨_, z⟩ => by
    rw [sIx_nat'] at z
    omega
  have w2 : ¬ (HT.sIx ds.length 0 (some ((k : Int) + 1)) = 0 ∧ HT.sIx ds.length ds.length none = ds.length) := fun ⟨z, _⟩ => by
    have : ((k : Int) + 1) = ((k + 1 : Nat) : Int) := by omega
    rw [this, sIx_nat'] at z
    omega
  obtain ⟨a1, a2⟩ := cut_sub (es := ds) (lo := none) (hi := some (k : Int))
  obtain ⟨b1, b2⟩ := cut_sub (es := ds) (lo := some ((k : Int) + 1)) (hi := none)
  simp only [w__law_with, seqD_t, seqD_l, wListRg1, wListRg2, wRngDown, wZipK, gInL, gNotInT, wCatOwn, gIsB, gNotB, D.adr.injEq, Cont.pool.injEq, ixN31, ne_eq, List.map_cons, List.map_nil, wPoolOpen, wPoolClose, wPop0, wPopTo, wListOwn, wRemove, wRaise0, wRaise1, wAugOwn, wEnumL, wTru, wSlA, gCatA, gLtT, gLeT, wFrz, wChain3, wAttr, wMkF, wEnumT, wRevT, wDict0, wDict1, numD3, Nat.reduceAdd, atI0, atI1, atI2, atI3, atI4, ixN51, ixN52, ixN53, List.length_map, wNever, scal, V.int.injEq, V.str.injEq, V.bl.injEq, wSq, wNext, wBreak, wCont, wDrop, wRet, wRetN, wIfS, wAsg, wPar, wLstOwn, wAppend, wSetOwn, wIxOwn, wPeek, wRetOwn, wRetFr, wFor, wB, wNot, wAnd, wOr, wAndV, wOrV, wNotV, wIf, wChain, wNil, wCons, wCB, wTup, wLst, wNoPart, wPart, wSlT, wSlL, wSeq, wRng1, wRng2, wZip, wName, wNilT, wConsT, wTupT, wYes, wNeg, wVar, wC, wOp, wcNil, wcCons, wcOwn, wCall, wCallOwn, slots, cellsOf, OwnArgs, putBack, g2I, g2IC, gLen, gAbs, gGcd, gInt1, gTupleOf, gListOf, gIx, gCatT, gCat, gEq, gNe, gIsN, gNotN, scD, seqD_t, seqD_l, seqD_f, isNonD, List.nodup_cons, List.mem_cons, List.not_mem_nil, or_false, not_false_eq_true, Nat.reduceEqDiff, L3.Keeps, ends, wipeD, List.replicate, List.cons_append, List.nil_append, List.append_nil, List.getElem?_cons_zero, List.getElem?_cons_succ, List.set_cons_zero, List.set_cons_succ, List.getD_cons_zero, List.getD_cons_succ, List.length_cons, List.length_nil, List.nodup_nil, Option.some.injEq, Cell.dat.injEq, Cell.own.injEq, Cont.lst.injEq, D.bl.injEq, D.int.injEq, D.str.injEq, D.tup.injEq, D.lst.injEq, Arg.d.injEq, List.cons.injEq, exists_and_left, exists_and_right, exists_eq_left', exists_eq_left, exists_eq_right, exists_eq_right', exists_eq, exists_eq', and_true, true_and, and_assoc, and_self, exists_const, reduceCtorEq]
  refine ⟨by decide, by omega, ?_, ?_⟩
  · rw [List.length_append]
    simp only [List.length_cons, List.length_nil]
    omega
  · have x1 : cutDs ds none (some (k : Int)) = ds.take k := by
      unfold cutDs
      rw [sIx_nat', HT.sIx_none, List.drop_zero]
      congr 1
      omega
    have x2 : cutDs ds (some ((k : Int) + 1)) none = ds.drop (k + 1) := by
      have : ((k : Int) + 1) = ((k + 1 : Nat) : Int) := by omega
      unfold cutDs
      rw [this, sIx_nat', HT.sIx_none]
      have : min (k + 1) ds.length = k + 1 := by omega
      rw [this]
      exact List.take_of_length_le (by rw [List.length_drop]; omega)
    have x3 : ds.set (k : Int).toNat d = ds.take k ++ [d] ++ ds.drop (k + 1) := by
      rw [Int.toNat_natCast, List.set_eq_take_append_cons_drop, if_pos (by omega)]
      simp
    rw [x1, x2, ← x3]
    exact hq
theorem ok__law_with (T : Txt K mg) : FnOk P w K mg base (L2.CX P w) 1 T.f__law_with T.fd__law_with ["row", "place", "thing"] (spOf K 3 (fs__law_with K)) := by
  refine def_ok T.F__law_with sc__law_with (wb := w__law_with K) pure__law_with ?_
  intro cdv A outer s H E hr tk
  exact ⟨_, (pss_one (ps_ret (pe_callTy call_tuple_of (by rfl) T.z_tuple (by decide +kernel) (pa_cons (pe_op op_cat (pe_op op_cat (pe_callTy call_list_of (by rfl) T.z_list (by decide +kernel) (pa_cons (pe_slice sl_tupA (pv 0) po_none (po_some (pv 1))) pa_nil)) (pe_lst (pa_cons (pv 2) pa_nil))) (pe_callTy call_list_of (by rfl) T.z_list (by decide +kernel) (pa_cons (pe_slice sl_tupA (pv 0) (po_some (pe_op op_add (pv 1) pe_int)) po_none) pa_nil))) pa_nil)))),
    (ds_ret (de_cb o_tupleOf (da_cons (de_op o_cat (de_op o_cat (de_cb o_listOf (da_cons (de_slA (de_var 0) do_no (do_part (de_var 1))) da_nil)) (de_lst (da_cons (de_var 2) da_nil))) (de_cb o_listOf (da_cons (de_slA (de_var 0) (do_part (de_op o_add (de_var 1) de_int)) do_no) da_nil))) da_nil)))⟩
abbrev s__law_joins : Stmt := topS 49
theorem sc__law_joins : FnScope ["source", "sorts", "found", "i", "j"] ["source", "sorts"] (defScope s__law_joins) := ⟨rfl, rfl, rfl, by decide +kernel, rfl, by decide +kernel, by decide +kernel⟩
def l1__law_joins (K : PySem.W.Frag) : SW := wFor (wRng2 (wCons (wVar 3) (wCons (wCB gLen (wCons (wVar 1) wNil)) wNil))) (wName 4) (wIfS (wAnd (wB (wOp gGtI (wOp gAddI (wOp gIx (wOp gIx (wVar 1) (wVar 3)) (wC (.int 0))) (wOp gIx (wOp gIx (wVar 1) (wVar 4)) (wC (.int 0)))) (wC (.int 0)))) (wB (wOp gEq (wCall 2 (fs__law_draw K) (wcOwn 0 (wcCons (wC (.int 2)) wcNil))) (wC (.int 0))))) (wAppend 2 (wCons (wTup (wCons (wVar 3) (wCons (wVar 4) wNil))) wNil)) wNext)
def l2__law_joins (K : PySem.W.Frag) : SW := wFor (wRng1 (wCons (wCB gLen (wCons (wVar 1) wNil)) wNil)) (wName 3) (l1__law_joins K)
def w__law_joins (K : PySem.W.Frag) : SW := (wSq (wLstOwn 2 wNil)
  (wSq (l2__law_joins K)
  (wRet (wPeek 2 (fun es q => q (.tup es))))))
theorem lexLt2 {a b c d : Int} : HT.lexLt [a, b] [c, d] = (decide (a < c) || (decide (a = c) && decide (b < d))) := by
  show (if a = c then (if b = d then false else decide (b < d)) else decide (a < c)) = _
  by_cases h1 : a = c
  · by_cases h2 : b = d
    · simp [h1, h2]
    · simp [h1, h2]
  · simp [h1]
theorem ascJ_snoc {es : List D} {x : D} (h : ascJ es = true) (h2 : ∀ d ∈ es, ltP (.tup [d, x]) = true) : ascJ (es ++ [x]) = true := by
  unfold ascJ at h ⊢
  rw [List.all_eq_true] at h ⊢
  intro p hp
  unfold zipD at hp h
  obtain ⟨i, hi, rfl⟩ := List.getElem_of_mem hp
  rw [List.length_zipWith, List.length_drop, List.length_append] at hi
  simp only [List.length_cons, List.length_nil] at hi
  rw [List.getElem_zipWith, List.getElem_drop]
  have hlt : i < es.length := by omega
  rw [List.getElem_append_left hlt]
  by_cases z : 1 + i < es.length
  · rw [List.getElem_append_left z]
    refine h _ ?_
    rw [List.mem_iff_getElem]
    refine ⟨i, by rw [List.length_zipWith, List.length_drop]; omega, ?_⟩
    rw [List.getElem_zipWith, List.getElem_drop]
  · rw [List.getElem_append_right (by omega)]
    have : 1 + i - es.length = 0 := by omega
    simp only [this, List.getElem_cons_zero]
    exact h2 _ (List.getElem_mem hlt)
/-- joins of these sorts that are drawn -/
def JoinsD (ss js : List D) : Prop := js.length ≤ 16 ∧ (∀ d ∈ js, isJo ss d = true) ∧ ascJ js = true
def fs__law_joins (K : PySem.W.Frag) : FS := fun cs q _ => ∃ (p : Addr) (c : Cont) (sd : D) (ss : List D), cs = [.own p c, .dat sd] ∧ seqD sd = some ss ∧ SrcC c ∧ ss.length ≤ 4 ∧ (∀ d ∈ ss, isSo d = true) ∧ ∀ (c' : Cont) (js : List D), SrcC c' → JoinsD ss js → q (.tup js) [.own p c', .dat sd]
def LtIJ (i j : Int) (d : D) : Prop := ∃ a b : Int, d = .tup [.int a, .int b] ∧ (a < i ∨ (a = i ∧ b < j))
def InvJ (p0 p : Addr) (sd : D) (ss : List D) (i j : Int) (n : Nat) (τ : List Cell) : Prop := ∃ (c : Cont) (js : List D) (c3 c4 : Cell), τ = [.own p0 c, .dat sd, .own p (.lst js), c3, c4] ∧ SrcC c ∧ js.length ≤ n ∧ (∀ d ∈ js, isJo ss d = true) ∧ ascJ js = true ∧ ∀ d ∈ js, LtIJ i j d
theorem ltIJ_mono {i j i' j' : Int} {d : D} (h : LtIJ i j d) (h2 : i < i' ∨ (i = i' ∧ j ≤ j')) : LtIJ i' j' d := by
  obtain ⟨a, b, rfl, h⟩ := h
  exact ⟨a, b, rfl, by omega⟩
theorem l1__law_joins_ok {p0 p : Addr} {c : Cont} {sd : D} {ss js : List D} {i : Nat} {c4 : Cell} {E : EndsD} (hsd : seqD sd = some ss) (h4 : ss.length ≤ 4) (hi : i < ss.length) (hs : ∀ d ∈ ss, isSo d = true) (hc : SrcC c) (hl : js.length ≤ 4 * i) (hj : ∀ d ∈ js, isJo ss d = true) (ha : ascJ js = true) (hm : ∀ d ∈ js, LtIJ (i : Int) 0 d)
    (hn : ∀ τ, InvJ p0 p sd ss ((i : Int) + 1) 0 (4 * (i + 1)) τ → (∃ c js c4, τ = [.own p0 c, .dat sd, .own p (.lst js), .dat (.int (i : Nat)), c4]) → E.nx τ) : l1__law_joins K E [.own p0 c, .dat sd, .own p (.lst js), .dat (.int (i : Nat)), c4] := by
  unfold l1__law_joins wFor
  refine ⟨_, rfl, _, rfl, sd, ss, rfl, hsd, _, _, rfl, by omega, fun k τ => InvJ p0 p sd ss i (i + k) (4 * i + k) τ ∧ ∃ c js c4, τ = [.own p0 c, .dat sd, .own p (.lst js), .dat (.int (i : Nat)), c4], ⟨⟨c, js, _, c4, rfl, hc, by omega, hj, ha, fun d hd => ltIJ_mono (hm d hd) (by omega)⟩, ⟨c, js, c4, rfl⟩⟩, ?_, ?_⟩
  · rintro k d τ2 hk ⟨⟨c, js, c3, c4, e, hc, hl, hj, ha, hm⟩, ⟨c', js', c4', e2⟩⟩
    rw [e2] at e
    injection e with e1 e
    injection e with _ e
    injection e with e3 e
    injection e with e4 e
    cases e1
    cases e3
    subst e2
    have hlt : k < ss.length - i := by
      have := (List.getElem?_eq_some_iff.mp hk).1
      rw [rangeD_length] at this
      omega
    rw [rangeD_get (by omega)] at hk
    cases hk
    obtain ⟨u, a1, u0, u1⟩ := wAt_get (a := (i : Int)) hs (by omega) (by omega)
    obtain ⟨v, a2, v0, v1⟩ := wAt_get (a := (i : Int) + (k : Nat)) hs (by omega) (by omega)
    have keep : InvJ p0 p sd ss i (i + (k + 1 : Nat)) (4 * i + (k + 1)) [.own p0 c, .dat sd, .own p (.lst js), .dat (.int (i : Nat)), .dat (.int ((i : Int) + (k : Nat)))] := ⟨c, js, _, _, rfl, hc, by omega, hj, ha, fun d hd => ltIJ_mono (hm d hd) (by omega)⟩
    simp only [fs__law_draw, hsd, a1, a2, wListRg1, wListRg2, wRngDown, wZipK, gInL, gNotInT, wCatOwn, gIsB, gNotB, D.adr.injEq, Cont.pool.injEq, ixN31, ne_eq, List.map_cons, List.map_nil, wPoolOpen, wPoolClose, wPop0, wPopTo, wListOwn, wRemove, wRaise0, wRaise1, wAugOwn, wEnumL, wTru, wSlA, gCatA, gLtT, gLeT, wFrz, wChain3, wAttr, wMkF, wEnumT, wRevT, wDict0, wDict1, numD3, Nat.reduceAdd, atI0, atI1, atI2, atI3, atI4, ixN51, ixN52, ixN53, List.length_map, wNever, scal, V.int.injEq, V.str.injEq, V.bl.injEq, wSq, wNext, wBreak, wCont, wDrop, wRet, wRetN, wIfS, wAsg, wPar, wLstOwn, wAppend, wSetOwn, wIxOwn, wPeek, wRetOwn, wRetFr, wFor, wB, wNot, wAnd, wOr, wAndV, wOrV, wNotV, wIf, wChain, wNil, wCons, wCB, wTup, wLst, wNoPart, wPart, wSlT, wSlL, wSeq, wRng1, wRng2, wZip, wName, wNilT, wConsT, wTupT, wYes, wNeg, wVar, wC, wOp, wcNil, wcCons, wcOwn, wCall, wCallOwn, slots, cellsOf, OwnArgs, putBack, g2I, g2IC, gLen, gAbs, gGcd, gInt1, gTupleOf, gListOf, gIx, gCatT, gCat, gEq, gNe, gIsN, gNotN, scD, seqD_t, seqD_l, seqD_f, isNonD, List.nodup_cons, List.mem_cons, List.not_mem_nil, or_false, not_false_eq_true, Nat.reduceEqDiff, L3.Keeps, ends, wipeD, List.replicate, List.cons_append, List.nil_append, List.append_nil, List.getElem?_cons_zero, List.getElem?_cons_succ, List.set_cons_zero, List.set_cons_succ, List.getD_cons_zero, List.getD_cons_succ, List.length_cons, List.length_nil, List.nodup_nil, Option.some.injEq, Cell.dat.injEq, Cell.own.injEq, Cont.lst.injEq, D.bl.injEq, D.int.injEq, D.str.injEq, D.tup.injEq, D.lst.injEq, Arg.d.injEq, List.cons.injEq, exists_and_left, exists_and_right, exists_eq_left', exists_eq_left, exists_eq_right, exists_eq_right', exists_eq, exists_eq', and_true, true_and, and_assoc, and_self, exists_const, reduceCtorEq]
    refine ⟨fun z => ⟨hc, by decide, by decide, fun c1 n hc1 n0 n1 => ⟨fun _ => ⟨by decide, by omega, ?_⟩, fun _ => ?_⟩⟩, fun _ => ⟨fun z => z.elim, fun _ => keep⟩⟩
    · have z := of_decide_eq_true z
      refine ⟨c1, js ++ [.tup [.int (i : Nat), .int ((i : Int) + (k : Nat))]], _, _, rfl, hc1, by rw [List.length_append]; simp; omega, all_snoc hj ?_, ascJ_snoc ha fun d hd => ?_, all_snoc (fun d hd => ltIJ_mono (hm d hd) (by omega)) ⟨_, _, rfl, by omega⟩⟩
      · simp only [isJo, jo, Bool.and_eq_true, Bool.or_eq_true, decide_eq_true_eq]
        refine ⟨⟨⟨by omega, by omega⟩, by omega, by omega⟩, ?_⟩
        by_cases k0 : k = 0
        · subst k0
          right
          have : (i : Int) + (0 : Nat) = (i : Int) := by omega
          rw [this] at z
          omega
        · left
          omega
      · obtain ⟨a, b, rfl, h⟩ := hm d hd
        simp only [ltP, lexLt2, Bool.or_eq_true, Bool.and_eq_true, decide_eq_true_eq]
        omega
    · exact ⟨c1, js, _, _, rfl, hc1, by omega, hj, ha, fun d hd => ltIJ_mono (hm d hd) (by omega)⟩
  · rintro τ2 ⟨⟨c, js, c3, c4, e, hc, hl, hj, ha, hm⟩, h2⟩
    rw [rangeD_length] at hl hm
    exact hn τ2 ⟨c, js, c3, c4, e, hc, by omega, hj, ha, fun d hd => ltIJ_mono (hm d hd) (by omega)⟩ h2
theorem pure__law_joins : PureD 2 3 (fs__law_joins K) (w__law_joins K) := by
  rintro cs q e - ⟨p0, c, sd, ss, rfl, hsd, hc, h4, hs, hq⟩
  simp only [w__law_joins, wListRg1, wListRg2, wRngDown, wZipK, gInL, gNotInT, wCatOwn, gIsB, gNotB, D.adr.injEq, Cont.pool.injEq, ixN31, ne_eq, List.map_cons, List.map_nil, wPoolOpen, wPoolClose, wPop0, wPopTo, wListOwn, wRemove, wRaise0, wRaise1, wAugOwn, wEnumL, wTru, wSlA, gCatA, gLtT, gLeT, wFrz, wChain3, wAttr, wMkF, wEnumT, wRevT, wDict0, wDict1, numD3, Nat.reduceAdd, atI0, atI1, atI2, atI3, atI4, ixN51, ixN52, ixN53, List.length_map, wNever, scal, V.int.injEq, V.str.injEq, V.bl.injEq, wSq, wNext, wBreak, wCont, wDrop, wRet, wRetN, wIfS, wAsg, wPar, wLstOwn, wAppend, wSetOwn, wIxOwn, wPeek, wRetOwn, wRetFr, wFor, wB, wNot, wAnd, wOr, wAndV, wOrV, wNotV, wIf, wChain, wNil, wCons, wCB, wTup, wLst, wNoPart, wPart, wSlT, wSlL, wSeq, wRng1, wRng2, wZip, wName, wNilT, wConsT, wTupT, wYes, wNeg, wVar, wC, wOp, wcNil, wcCons, wcOwn, wCall, wCallOwn, slots, cellsOf, OwnArgs, putBack, g2I, g2IC, gLen, gAbs, gGcd, gInt1, gTupleOf, gListOf, gIx, gCatT, gCat, gEq, gNe, gIsN, gNotN, scD, seqD_t, seqD_l, seqD_f, isNonD, List.nodup_cons, List.mem_cons, List.not_mem_nil, or_false, not_false_eq_true, Nat.reduceEqDiff, L3.Keeps, ends, wipeD, List.replicate, List.cons_append, List.nil_append, List.append_nil, List.getElem?_cons_zero, List.getElem?_cons_succ, List.set_cons_zero, List.set_cons_succ, List.getD_cons_zero, List.getD_cons_succ, List.length_cons, List.length_nil, List.nodup_nil, Option.some.injEq, Cell.dat.injEq, Cell.own.injEq, Cont.lst.injEq, D.bl.injEq, D.int.injEq, D.str.injEq, D.tup.injEq, D.lst.injEq, Arg.d.injEq, List.cons.injEq, exists_and_left, exists_and_right, exists_eq_left', exists_eq_left, exists_eq_right, exists_eq_right', exists_eq, exists_eq', and_true, true_and, and_assoc, and_self, exists_const, reduceCtorEq]
  refine ⟨by decide, fun p => ?_⟩
  unfold l2__law_joins wFor
  refine ⟨_, rfl, sd, ss, rfl, hsd, _, rfl, by omega, by omega, fun i τ => InvJ p0 p sd ss i 0 (4 * i) τ, ⟨c, [], _, _, rfl, hc, by simp, fun d h => by simp at h, rfl, fun d h => by simp at h⟩, ?_, ?_⟩
  · rintro i d τ2 hi ⟨c, js, c3, c4, rfl, hc, hl, hj, ha, hm⟩
    have hlt : i < ss.length := by
      have := (List.getElem?_eq_some_iff.mp hi).1
      rw [rangeD_length] at this
      omega
    rw [rangeD_get (by omega)] at hi
    cases hi
    have z0 : (0 : Int) + (i : Nat) = ((i : Nat) : Int) := by omega
    rw [z0]
    exact l1__law_joins_ok hsd h4 hlt hs hc hl hj ha hm fun τ h _ => by
      have : ((i : Int) + 1) = ((i + 1 : Nat) : Int) := by omega
      rw [this] at h
      exact h
  · rintro τ2 ⟨c, js, c3, c4, rfl, hc, hl, hj, ha, hm⟩
    rw [rangeD_length] at hl
    simp only [wListRg1, wListRg2, wRngDown, wZipK, gInL, gNotInT, wCatOwn, gIsB, gNotB, D.adr.injEq, Cont.pool.injEq, ixN31, ne_eq, List.map_cons, List.map_nil, wPoolOpen, wPoolClose, wPop0, wPopTo, wListOwn, wRemove, wRaise0, wRaise1, wAugOwn, wEnumL, wTru, wSlA, gCatA, gLtT, gLeT, wFrz, wChain3, wAttr, wMkF, wEnumT, wRevT, wDict0, wDict1, numD3, Nat.reduceAdd, atI0, atI1, atI2, atI3, atI4, ixN51, ixN52, ixN53, List.length_map, wNever, scal, V.int.injEq, V.str.injEq, V.bl.injEq, wSq, wNext, wBreak, wCont, wDrop, wRet, wRetN, wIfS, wAsg, wPar, wLstOwn, wAppend, wSetOwn, wIxOwn, wPeek, wRetOwn, wRetFr, wFor, wB, wNot, wAnd, wOr, wAndV, wOrV, wNotV, wIf, wChain, wNil, wCons, wCB, wTup, wLst, wNoPart, wPart, wSlT, wSlL, wSeq, wRng1, wRng2, wZip, wName, wNilT, wConsT, wTupT, wYes, wNeg, wVar, wC, wOp, wcNil, wcCons, wcOwn, wCall, wCallOwn, slots, cellsOf, OwnArgs, putBack, g2I, g2IC, gLen, gAbs, gGcd, gInt1, gTupleOf, gListOf, gIx, gCatT, gCat, gEq, gNe, gIsN, gNotN, scD, seqD_t, seqD_l, seqD_f, isNonD, List.nodup_cons, List.mem_cons, List.not_mem_nil, or_false, not_false_eq_true, Nat.reduceEqDiff, L3.Keeps, ends, wipeD, List.replicate, List.cons_append, List.nil_append, List.append_nil, List.getElem?_cons_zero, List.getElem?_cons_succ, List.set_cons_zero, List.set_cons_succ, List.getD_cons_zero, List.getD_cons_succ, List.length_cons, List.length_nil, List.nodup_nil, Option.some.injEq, Cell.dat.injEq, Cell.own.injEq, Cont.lst.injEq, D.bl.injEq, D.int.injEq, D.str.injEq, D.tup.injEq, D.lst.injEq, Arg.d.injEq, List.cons.injEq, exists_and_left, exists_and_right, exists_eq_left', exists_eq_left, exists_eq_right, exists_eq_right', exists_eq, exists_eq', and_true, true_and, and_assoc, and_self, exists_const, reduceCtorEq]
    exact hq c js hc ⟨by omega, hj, ha⟩
theorem ok__law_joins (T : Txt K mg) : FnOk P w K mg base (L2.CX P w) 3 T.f__law_joins T.fd__law_joins ["source", "sorts"] (spOf K 2 (fs__law_joins K)) := by
  refine def_ok T.F__law_joins sc__law_joins (wb := w__law_joins K) pure__law_joins ?_
  intro cdv A outer s H E hr tk
  exact ⟨_, (pss_cons (ps_set (i := 2) sc__law_joins.nd rfl (by first | exact Or.inl rfl | exact Or.inr rfl) (pe_lst pa_nil))
      (pss_cons (ps_for (passes_of rfl) rfl (pi_range1 (by rfl) T.z_range (pa_cons (pe_callB call_len_seq (by rfl) T.z_len (by decide +kernel) (pa_cons (pv 1) pa_nil)) pa_nil)) (pg_name (i := 3) sc__law_joins.nd rfl (by first | exact Or.inl rfl | exact Or.inr rfl))
        (pss_one (ps_for (passes_of rfl) rfl (pi_range2 (by rfl) T.z_range (pa_cons (pv 3) (pa_cons (pe_callB call_len_seq (by rfl) T.z_len (by decide +kernel) (pa_cons (pv 1) pa_nil)) pa_nil))) (pg_name (i := 4) sc__law_joins.nd rfl (by first | exact Or.inl rfl | exact Or.inr rfl))
        (pss_one (ps_if (PW.pt (pw_and (pt_cmpR op_gt (pe_op op_add (pe_ix ix_seq (pe_ix ix_seq (pv 1) (pv 3) (fun _ _ => rfl)) pe_int (fun _ _ => rfl)) (pe_ix ix_seq (pe_ix ix_seq (pv 1) (pv 4) (fun _ _ => rfl)) pe_int (fun _ _ => rfl))) pe_int (nomark _)) (pw_and1 (pt_cmpR op_eq (pe_callS (ok__law_draw T) (hr.mono (by decide)) rfl T.g__law_draw T.k__law_draw T.b__law_draw (fun σ => passAt tk σ) (pa_cons (pv 0) (pa_cons pe_int pa_nil))) pe_int (nomark _)))))
        (pss_one (ps_expr (pe_bm PySem.F.plainAttrs_list PySem.F.slot_list_append PySem.F.type_list_append mt_append (pv 2) (pa_cons (pe_tup (pa_cons (pv 3) (pa_cons (pv 4) pa_nil))) pa_nil))))
        pss_nil)))))
      (pss_one (ps_ret (pe_callTy call_tuple_of (by rfl) T.z_tuple (by decide +kernel) (pa_cons (pv 2) pa_nil)))))),
    (ds_seq (ds_lstOwn (i := 2) da_nil)
      (ds_seq (ds_for (wI := (wRng1 (wCons (wCB gLen (wCons (wVar 1) wNil)) wNil))) (wg := (wName 3)) (wb := (l1__law_joins K)) (di_rng1 (da_cons (de_cb o_len (da_cons (de_var 1) da_nil)) da_nil)) (dg_name 3) (ds_for (wI := (wRng2 (wCons (wVar 3) (wCons (wCB gLen (wCons (wVar 1) wNil)) wNil)))) (wg := (wName 4)) (wb := (wIfS (wAnd (wB (wOp gGtI (wOp gAddI (wOp gIx (wOp gIx (wVar 1) (wVar 3)) (wC (.int 0))) (wOp gIx (wOp gIx (wVar 1) (wVar 4)) (wC (.int 0)))) (wC (.int 0)))) (wB (wOp gEq (wCall 2 (fs__law_draw K) (wcOwn 0 (wcCons (wC (.int 2)) wcNil))) (wC (.int 0))))) (wAppend 2 (wCons (wTup (wCons (wVar 3) (wCons (wVar 4) wNil))) wNil)) wNext)) (di_rng2 (da_cons (de_var 3) (da_cons (de_cb o_len (da_cons (de_var 1) da_nil)) da_nil))) (dg_name 4) (ds_if (dt_and (dt_B (de_op o_gt (de_op o_add (de_op o_ix (de_op o_ix (de_var 1) (de_var 3)) de_int) (de_op o_ix (de_op o_ix (de_var 1) (de_var 4)) de_int)) de_int)) (dt_B (de_op o_eq (de_call (n := 2) (fs := fs__law_draw K) (dac_own (j := 0) (dac_cons de_int dac_nil))) de_int))) (ds_append (i := 2) (da_cons (de_tup (da_cons (de_var 3) (da_cons (de_var 4) da_nil))) da_nil)) ds_nil)))
      (ds_ret (de_peek (i := 2) p_tupleOf))))⟩
abbrev s__law_book : Stmt := topS 50
theorem sc__law_book : FnScope ["source", "sorts", "k", "kinds", "joins", "steps"] ["source"] (defScope s__law_book) := ⟨rfl, rfl, rfl, by decide +kernel, rfl, by decide +kernel, by decide +kernel⟩
def l1__law_book (K : PySem.W.Frag) : SW := wFor (wRng1 (wCons (wOp gAddI (wC (.int 1)) (wCall 2 (fs__law_draw K) (wcOwn 0 (wcCons (wC (.int 4)) wcNil)))) wNil)) (wName 2) (wAppend 1 (wCons (wTup (wCons (wOp gAddI (wC (.int 1)) (wCall 2 (fs__law_draw K) (wcOwn 0 (wcCons (wC (.int 12)) wcNil)))) (wCons (wOp gAddI (wC (.int 1)) (wCall 2 (fs__law_draw K) (wcOwn 0 (wcCons (wC (.int 6)) wcNil)))) wNil))) wNil))
def l2__law_book (K : PySem.W.Frag) : SW := wFor (wRng1 (wCons (wCall 2 (fs__law_draw K) (wcOwn 0 (wcCons (wC (.int 6)) wcNil))) wNil)) (wName 2) (wSq (wAsg (wCall 2 (fs__law_joins K) (wcOwn 0 (wcCons (wEor (wFrz 1) (wVar 1)) wcNil))) (wName 4))
  (wSq (wAsg (wCall 3 (fs__law_steps K) (wcOwn 0 (wcCons (wC (.int 6)) (wcCons (wC (.bl true)) wcNil)))) (wName 5))
  (wIfS (wB (wOp gGtI (wCB gLen (wCons (wVar 4) wNil)) (wC (.int 0)))) (wAppend 3 (wCons (wTup (wCons (wVar 5) (wCons (wVar 4) wNil))) wNil)) wNext)))
def w__law_book (K : PySem.W.Frag) : SW := (wSq (wLstOwn 1 wNil)
  (wSq (l1__law_book K)
  (wSq (wIfS (wB (wOp gEq (wCall 2 (fs__law_draw K) (wcOwn 0 (wcCons (wC (.int 3)) wcNil))) (wC (.int 0)))) (wSetOwn 1 (wTup (wCons (wC (.int 0)) (wCons (wOp gAddI (wC (.int 1)) (wCall 2 (fs__law_draw K) (wcOwn 0 (wcCons (wC (.int 6)) wcNil)))) wNil))) (wCall 2 (fs__law_draw K) (wcOwn 0 (wcCons (wPeek 1 (fun es q => q (.int es.length))) wcNil)))) wNext)
  (wSq (wLstOwn 3 wNil)
  (wSq (l2__law_book K)
  (wRet (wTup (wCons (wEor (wPeek 1 (fun es q => q (.tup es))) (wCB gTupleOf (wCons (wVar 1) wNil))) (wCons (wPeek 3 (fun es q => q (.tup es))) wNil)))))))))
/-- a kind that is drawn -/
def KindD (ss : List D) (d : D) : Prop := ∃ es js : List D, d = .tup [.tup es, .tup js] ∧ StepsD es ∧ 1 ≤ js.length ∧ JoinsD ss js
theorem kindD_ki {ss : List D} {d : D} (h : KindD ss d) : isKi ss d = true := by
  obtain ⟨es, js, rfl, h1, h2, h3, h4, h5⟩ := h
  have n : js.isEmpty = false := by cases js <;> simp at h2 ⊢
  simp only [isKi, stepsD_li h1, n, List.all_eq_true.mpr h4, h5, Bool.not_false, Bool.and_self]
theorem ixN_lt {n j : Nat} (h : j < n) : ixN n (j : Int) = some j := by
  unfold ixN
  rw [if_pos (by omega)]
  simp
  omega
/-- sorts that are drawn -/
def SortsD (ss : List D) : Prop := (∀ d ∈ ss, isSo d = true) ∧ (ss.filter isSea).length ≤ 1 ∧ 1 ≤ ss.length ∧ ss.length ≤ 4
theorem sea_set {x : D} : ∀ {ss : List D} (n : Nat), ss.filter isSea = [] → ((ss.set n x).filter isSea).length ≤ 1
  | [], _, _ => by simp
  | y :: r, n, h => by
    have hy : isSea y = false := by
      cases z : isSea y with
      | false => rfl
      | true => rw [List.filter_cons_of_pos z] at h; cases h
    have hr : r.filter isSea = [] := by
      rw [List.filter_cons_of_neg (by rw [hy]; simp)] at h
      exact h
    cases n with
    | zero =>
      rw [List.set_cons_zero]
      by_cases z : isSea x = true
      · rw [List.filter_cons_of_pos z, hr]
        simp
      · rw [List.filter_cons_of_neg z, hr]
        simp
    | succ n =>
      rw [List.set_cons_succ, List.filter_cons_of_neg (by rw [hy]; simp)]
      exact sea_set n hr
theorem so_mk {a b : Int} (a0 : 0 ≤ a) (a1 : a ≤ 12) (b0 : 1 ≤ b) (b1 : b ≤ 6) : isSo (.tup [.int a, .int b]) = true := by
  simp only [isSo, isBetw, Bool.and_eq_true, decide_eq_true_eq]
  omega
def fs__law_book (K : PySem.W.Frag) : FS := fun cs q _ => ∃ (p : Addr) (c : Cont), cs = [.own p c] ∧ SrcC c ∧ ∀ (c' : Cont) (ss ks : List D), SrcC c' → SortsD ss → ks.length ≤ 5 → (∀ d ∈ ks, KindD ss d) → q (.tup [.tup ss, .tup ks]) [.own p c']
def InvSo (p0 p : Addr) (i : Nat) (τ : List Cell) : Prop := ∃ (c : Cont) (ss : List D) (c2 c3 c4 c5 : Cell), τ = [.own p0 c, .own p (.lst ss), c2, c3, c4, c5] ∧ SrcC c ∧ ss.length = i ∧ ∀ d ∈ ss, isSo d = true ∧ isSea d = false
theorem l1__law_book_ok {p0 p : Addr} {c : Cont} {c2 c3 c4 c5 : Cell} {E : EndsD} (hc : SrcC c) (hn : ∀ c ss c2 c3 c4 c5, SrcC c → 1 ≤ ss.length → ss.length ≤ 4 → (∀ d ∈ ss, isSo d = true ∧ isSea d = false) → E.nx [.own p0 c, .own p (.lst ss), c2, c3, c4, c5]) : l1__law_book K E [.own p0 c, .own p (.lst []), c2, c3, c4, c5] := by
  unfold l1__law_book wFor
  simp only [fs__law_draw, wListRg1, wListRg2, wRngDown, wZipK, gInL, gNotInT, wCatOwn, gIsB, gNotB, D.adr.injEq, Cont.pool.injEq, ixN31, ne_eq, List.map_cons, List.map_nil, wPoolOpen, wPoolClose, wPop0, wPopTo, wListOwn, wRemove, wRaise0, wRaise1, wAugOwn, wEnumL, wTru, wSlA, gCatA, gLtT, gLeT, wFrz, wChain3, wAttr, wMkF, wEnumT, wRevT, wDict0, wDict1, numD3, Nat.reduceAdd, atI0, atI1, atI2, atI3, atI4, ixN51, ixN52, ixN53, List.length_map, wNever, scal, V.int.injEq, V.str.injEq, V.bl.injEq, wSq, wNext, wBreak, wCont, wDrop, wRet, wRetN, wIfS, wAsg, wPar, wLstOwn, wAppend, wSetOwn, wIxOwn, wPeek, wRetOwn, wRetFr, wFor, wB, wNot, wAnd, wOr, wAndV, wOrV, wNotV, wIf, wChain, wNil, wCons, wCB, wTup, wLst, wNoPart, wPart, wSlT, wSlL, wSeq, wRng1, wRng2, wZip, wName, wNilT, wConsT, wTupT, wYes, wNeg, wVar, wC, wOp, wcNil, wcCons, wcOwn, wCall, wCallOwn, slots, cellsOf, OwnArgs, putBack, g2I, g2IC, gLen, gAbs, gGcd, gInt1, gTupleOf, gListOf, gIx, gCatT, gCat, gEq, gNe, gIsN, gNotN, scD, seqD_t, seqD_l, seqD_f, isNonD, List.nodup_cons, List.mem_cons, List.not_mem_nil, or_false, not_false_eq_true, Nat.reduceEqDiff, L3.Keeps, ends, wipeD, List.replicate, List.cons_append, List.nil_append, List.append_nil, List.getElem?_cons_zero, List.getElem?_cons_succ, List.set_cons_zero, List.set_cons_succ, List.getD_cons_zero, List.getD_cons_succ, List.length_cons, List.length_nil, List.nodup_nil, Option.some.injEq, Cell.dat.injEq, Cell.own.injEq, Cont.lst.injEq, D.bl.injEq, D.int.injEq, D.str.injEq, D.tup.injEq, D.lst.injEq, Arg.d.injEq, List.cons.injEq, exists_and_left, exists_and_right, exists_eq_left', exists_eq_left, exists_eq_right, exists_eq_right', exists_eq, exists_eq', and_true, true_and, and_assoc, and_self, exists_const, reduceCtorEq]
  refine ⟨hc, by decide, by decide, fun c1 n hc1 n0 n4 => ⟨by omega, by omega, InvSo p0 p, ⟨c1, [], _, _, _, _, rfl, hc1, rfl, fun d h => by simp at h⟩, ?_, ?_⟩⟩
  · rintro i d τ2 hi ⟨c, ss, c2, c3, c4, c5, rfl, hc, hl, hs⟩
    have hlt : i < 4 := by
      have := (List.getElem?_eq_some_iff.mp hi).1
      rw [rangeD_length] at this
      omega
    simp only [fs__law_draw, wListRg1, wListRg2, wRngDown, wZipK, gInL, gNotInT, wCatOwn, gIsB, gNotB, D.adr.injEq, Cont.pool.injEq, ixN31, ne_eq, List.map_cons, List.map_nil, wPoolOpen, wPoolClose, wPop0, wPopTo, wListOwn, wRemove, wRaise0, wRaise1, wAugOwn, wEnumL, wTru, wSlA, gCatA, gLtT, gLeT, wFrz, wChain3, wAttr, wMkF, wEnumT, wRevT, wDict0, wDict1, numD3, Nat.reduceAdd, atI0, atI1, atI2, atI3, atI4, ixN51, ixN52, ixN53, List.length_map, wNever, scal, V.int.injEq, V.str.injEq, V.bl.injEq, wSq, wNext, wBreak, wCont, wDrop, wRet, wRetN, wIfS, wAsg, wPar, wLstOwn, wAppend, wSetOwn, wIxOwn, wPeek, wRetOwn, wRetFr, wFor, wB, wNot, wAnd, wOr, wAndV, wOrV, wNotV, wIf, wChain, wNil, wCons, wCB, wTup, wLst, wNoPart, wPart, wSlT, wSlL, wSeq, wRng1, wRng2, wZip, wName, wNilT, wConsT, wTupT, wYes, wNeg, wVar, wC, wOp, wcNil, wcCons, wcOwn, wCall, wCallOwn, slots, cellsOf, OwnArgs, putBack, g2I, g2IC, gLen, gAbs, gGcd, gInt1, gTupleOf, gListOf, gIx, gCatT, gCat, gEq, gNe, gIsN, gNotN, scD, seqD_t, seqD_l, seqD_f, isNonD, List.nodup_cons, List.mem_cons, List.not_mem_nil, or_false, not_false_eq_true, Nat.reduceEqDiff, L3.Keeps, ends, wipeD, List.replicate, List.cons_append, List.nil_append, List.append_nil, List.getElem?_cons_zero, List.getElem?_cons_succ, List.set_cons_zero, List.set_cons_succ, List.getD_cons_zero, List.getD_cons_succ, List.length_cons, List.length_nil, List.nodup_nil, Option.some.injEq, Cell.dat.injEq, Cell.own.injEq, Cont.lst.injEq, D.bl.injEq, D.int.injEq, D.str.injEq, D.tup.injEq, D.lst.injEq, Arg.d.injEq, List.cons.injEq, exists_and_left, exists_and_right, exists_eq_left', exists_eq_left, exists_eq_right, exists_eq_right', exists_eq, exists_eq', and_true, true_and, and_assoc, and_self, exists_const, reduceCtorEq]
    refine ⟨hc, by decide, by decide, fun c1 a hc1 a0 a1 => ⟨hc1, by decide, by decide, fun c2 b hc2 b0 b1 => ⟨by decide, by omega, c2, _, _, _, _, _, rfl, hc2, by rw [List.length_append, hl]; rfl, all_snoc hs ⟨so_mk (by omega) (by omega) (by omega) (by omega), ?_⟩⟩⟩⟩
    show decide (1 + a = 0) = false
    exact decide_eq_false (by omega)
  · rintro τ2 ⟨c, ss, c2, c3, c4, c5, rfl, hc, hl, hs⟩
    rw [rangeD_length] at hl
    exact hn c ss _ _ _ _ hc (by omega) (by omega) hs
def InvKd (p0 p pk : Addr) (ss : List D) (i : Nat) (τ : List Cell) : Prop := ∃ (c : Cont) (ks : List D) (c1 c2 c4 c5 : Cell), τ = [.own p0 c, c1, c2, .own pk (.lst ks), c4, c5] ∧ (c1 = .own p (.lst ss) ∨ c1 = .dat (.lst ss)) ∧ SrcC c ∧ ks.length ≤ i ∧ ∀ d ∈ ks, KindD ss d
theorem l2__law_book_ok {p0 p pk : Addr} {ss : List D} {c : Cont} {c2 c4 c5 : Cell} {E : EndsD} (hc : SrcC c) (hs : SortsD ss) (hn : ∀ c ks c1 c2 c4 c5, (c1 = .own p (.lst ss) ∨ c1 = .dat (.lst ss)) → SrcC c → ks.length ≤ 5 → (∀ d ∈ ks, KindD ss d) → E.nx [.own p0 c, c1, c2, .own pk (.lst ks), c4, c5]) : l2__law_book K E [.own p0 c, .own p (.lst ss), c2, .own pk (.lst []), c4, c5] := by
  unfold l2__law_book wFor
  simp only [fs__law_draw, wListRg1, wListRg2, wRngDown, wZipK, gInL, gNotInT, wCatOwn, gIsB, gNotB, D.adr.injEq, Cont.pool.injEq, ixN31, ne_eq, List.map_cons, List.map_nil, wPoolOpen, wPoolClose, wPop0, wPopTo, wListOwn, wRemove, wRaise0, wRaise1, wAugOwn, wEnumL, wTru, wSlA, gCatA, gLtT, gLeT, wFrz, wChain3, wAttr, wMkF, wEnumT, wRevT, wDict0, wDict1, numD3, Nat.reduceAdd, atI0, atI1, atI2, atI3, atI4, ixN51, ixN52, ixN53, List.length_map, wNever, scal, V.int.injEq, V.str.injEq, V.bl.injEq, wSq, wNext, wBreak, wCont, wDrop, wRet, wRetN, wIfS, wAsg, wPar, wLstOwn, wAppend, wSetOwn, wIxOwn, wPeek, wRetOwn, wRetFr, wFor, wB, wNot, wAnd, wOr, wAndV, wOrV, wNotV, wIf, wChain, wNil, wCons, wCB, wTup, wLst, wNoPart, wPart, wSlT, wSlL, wSeq, wRng1, wRng2, wZip, wName, wNilT, wConsT, wTupT, wYes, wNeg, wVar, wC, wOp, wcNil, wcCons, wcOwn, wCall, wCallOwn, slots, cellsOf, OwnArgs, putBack, g2I, g2IC, gLen, gAbs, gGcd, gInt1, gTupleOf, gListOf, gIx, gCatT, gCat, gEq, gNe, gIsN, gNotN, scD, seqD_t, seqD_l, seqD_f, isNonD, List.nodup_cons, List.mem_cons, List.not_mem_nil, or_false, not_false_eq_true, Nat.reduceEqDiff, L3.Keeps, ends, wipeD, List.replicate, List.cons_append, List.nil_append, List.append_nil, List.getElem?_cons_zero, List.getElem?_cons_succ, List.set_cons_zero, List.set_cons_succ, List.getD_cons_zero, List.getD_cons_succ, List.length_cons, List.length_nil, List.nodup_nil, Option.some.injEq, Cell.dat.injEq, Cell.own.injEq, Cont.lst.injEq, D.bl.injEq, D.int.injEq, D.str.injEq, D.tup.injEq, D.lst.injEq, Arg.d.injEq, List.cons.injEq, exists_and_left, exists_and_right, exists_eq_left', exists_eq_left, exists_eq_right, exists_eq_right', exists_eq, exists_eq', and_true, true_and, and_assoc, and_self, exists_const, reduceCtorEq]
  refine ⟨hc, by decide, by decide, fun c1 n hc1 n0 n4 => ⟨by omega, by omega, InvKd p0 p pk ss, ⟨c1, [], _, _, _, _, rfl, .inl rfl, hc1, by simp, fun d h => by simp at h⟩, ?_, ?_⟩⟩
  · rintro i d τ2 hi ⟨c, ks, c1, c2, c4, c5, rfl, h1, hc, hl, hk⟩
    have hlt : i < 5 := by
      have := (List.getElem?_eq_some_iff.mp hi).1
      rw [rangeD_length] at this
      omega
    have end_ : ∀ (c : Cont) (es js : List D) (c2 : Cell), SrcC c → StepsD es → JoinsD ss js → (decide ((0 : Int) < (js.length : Int)) = true → 2 ≤ 1000 ∧ ks.length < 1000 ∧ InvKd p0 p pk ss (i + 1) [.own p0 c, .dat (.lst ss), c2, .own pk (.lst (ks ++ [.tup [.tup es, .tup js]])), .dat (.tup js), .dat (.tup es)]) ∧ (decide ((0 : Int) < (js.length : Int)) = false → InvKd p0 p pk ss (i + 1) [.own p0 c, .dat (.lst ss), c2, .own pk (.lst ks), .dat (.tup js), .dat (.tup es)]) := fun c es js c2 hc he hj => by
      refine ⟨fun z => ⟨by decide, by omega, c, _, _, _, _, _, rfl, .inr rfl, hc, by rw [List.length_append]; simp; omega, all_snoc hk ⟨es, js, rfl, he, ?_, hj⟩⟩, fun _ => ⟨c, ks, _, _, _, _, rfl, .inr rfl, hc, by omega, hk⟩⟩
      have := of_decide_eq_true z
      omega
    rcases h1 with rfl | rfl
    · simp only [wEor, fs__law_steps, fs__law_joins, wListRg1, wListRg2, wRngDown, wZipK, gInL, gNotInT, wCatOwn, gIsB, gNotB, D.adr.injEq, Cont.pool.injEq, ixN31, ne_eq, List.map_cons, List.map_nil, wPoolOpen, wPoolClose, wPop0, wPopTo, wListOwn, wRemove, wRaise0, wRaise1, wAugOwn, wEnumL, wTru, wSlA, gCatA, gLtT, gLeT, wFrz, wChain3, wAttr, wMkF, wEnumT, wRevT, wDict0, wDict1, numD3, Nat.reduceAdd, atI0, atI1, atI2, atI3, atI4, ixN51, ixN52, ixN53, List.length_map, wNever, scal, V.int.injEq, V.str.injEq, V.bl.injEq, wSq, wNext, wBreak, wCont, wDrop, wRet, wRetN, wIfS, wAsg, wPar, wLstOwn, wAppend, wSetOwn, wIxOwn, wPeek, wRetOwn, wRetFr, wFor, wB, wNot, wAnd, wOr, wAndV, wOrV, wNotV, wIf, wChain, wNil, wCons, wCB, wTup, wLst, wNoPart, wPart, wSlT, wSlL, wSeq, wRng1, wRng2, wZip, wName, wNilT, wConsT, wTupT, wYes, wNeg, wVar, wC, wOp, wcNil, wcCons, wcOwn, wCall, wCallOwn, slots, cellsOf, OwnArgs, putBack, g2I, g2IC, gLen, gAbs, gGcd, gInt1, gTupleOf, gListOf, gIx, gCatT, gCat, gEq, gNe, gIsN, gNotN, scD, seqD_t, seqD_l, seqD_f, isNonD, List.nodup_cons, List.mem_cons, List.not_mem_nil, or_false, not_false_eq_true, Nat.reduceEqDiff, L3.Keeps, ends, wipeD, List.replicate, List.cons_append, List.nil_append, List.append_nil, List.getElem?_cons_zero, List.getElem?_cons_succ, List.set_cons_zero, List.set_cons_succ, List.getD_cons_zero, List.getD_cons_succ, List.length_cons, List.length_nil, List.nodup_nil, Option.some.injEq, Cell.dat.injEq, Cell.own.injEq, Cont.lst.injEq, D.bl.injEq, D.int.injEq, D.str.injEq, D.tup.injEq, D.lst.injEq, Arg.d.injEq, List.cons.injEq, exists_and_left, exists_and_right, exists_eq_left', exists_eq_left, exists_eq_right, exists_eq_right', exists_eq, exists_eq', and_true, true_and, and_assoc, and_self, exists_const, reduceCtorEq]
      exact .inl ⟨hc, hs.2.2.2, hs.1, fun c1 js hc1 hj => ⟨hc1, by decide, by decide, fun c2 es hc2 _ he => end_ c2 es js _ hc2 he hj⟩⟩
    · simp only [wEor, fs__law_steps, fs__law_joins, wListRg1, wListRg2, wRngDown, wZipK, gInL, gNotInT, wCatOwn, gIsB, gNotB, D.adr.injEq, Cont.pool.injEq, ixN31, ne_eq, List.map_cons, List.map_nil, wPoolOpen, wPoolClose, wPop0, wPopTo, wListOwn, wRemove, wRaise0, wRaise1, wAugOwn, wEnumL, wTru, wSlA, gCatA, gLtT, gLeT, wFrz, wChain3, wAttr, wMkF, wEnumT, wRevT, wDict0, wDict1, numD3, Nat.reduceAdd, atI0, atI1, atI2, atI3, atI4, ixN51, ixN52, ixN53, List.length_map, wNever, scal, V.int.injEq, V.str.injEq, V.bl.injEq, wSq, wNext, wBreak, wCont, wDrop, wRet, wRetN, wIfS, wAsg, wPar, wLstOwn, wAppend, wSetOwn, wIxOwn, wPeek, wRetOwn, wRetFr, wFor, wB, wNot, wAnd, wOr, wAndV, wOrV, wNotV, wIf, wChain, wNil, wCons, wCB, wTup, wLst, wNoPart, wPart, wSlT, wSlL, wSeq, wRng1, wRng2, wZip, wName, wNilT, wConsT, wTupT, wYes, wNeg, wVar, wC, wOp, wcNil, wcCons, wcOwn, wCall, wCallOwn, slots, cellsOf, OwnArgs, putBack, g2I, g2IC, gLen, gAbs, gGcd, gInt1, gTupleOf, gListOf, gIx, gCatT, gCat, gEq, gNe, gIsN, gNotN, scD, seqD_t, seqD_l, seqD_f, isNonD, List.nodup_cons, List.mem_cons, List.not_mem_nil, or_false, not_false_eq_true, Nat.reduceEqDiff, L3.Keeps, ends, wipeD, List.replicate, List.cons_append, List.nil_append, List.append_nil, List.getElem?_cons_zero, List.getElem?_cons_succ, List.set_cons_zero, List.set_cons_succ, List.getD_cons_zero, List.getD_cons_succ, List.length_cons, List.length_nil, List.nodup_nil, Option.some.injEq, Cell.dat.injEq, Cell.own.injEq, Cont.lst.injEq, D.bl.injEq, D.int.injEq, D.str.injEq, D.tup.injEq, D.lst.injEq, Arg.d.injEq, List.cons.injEq, exists_and_left, exists_and_right, exists_eq_left', exists_eq_left, exists_eq_right, exists_eq_right', exists_eq, exists_eq', and_true, true_and, and_assoc, and_self, exists_const, reduceCtorEq]
      exact .inr ⟨hc, hs.2.2.2, hs.1, fun c1 js hc1 hj => ⟨hc1, by decide, by decide, fun c2 es hc2 _ he => end_ c2 es js _ hc2 he hj⟩⟩
  · rintro τ2 ⟨c, ks, c1, c2, c4, c5, rfl, h1, hc, hl, hk⟩
    rw [rangeD_length] at hl
    exact hn c ks _ _ _ _ h1 hc (by omega) hk
theorem pure__law_book : PureD 1 5 (fs__law_book K) (w__law_book K) := by
  rintro cs q e - ⟨p0, c, rfl, hc, hq⟩
  simp only [w__law_book, wListRg1, wListRg2, wRngDown, wZipK, gInL, gNotInT, wCatOwn, gIsB, gNotB, D.adr.injEq, Cont.pool.injEq, ixN31, ne_eq, List.map_cons, List.map_nil, wPoolOpen, wPoolClose, wPop0, wPopTo, wListOwn, wRemove, wRaise0, wRaise1, wAugOwn, wEnumL, wTru, wSlA, gCatA, gLtT, gLeT, wFrz, wChain3, wAttr, wMkF, wEnumT, wRevT, wDict0, wDict1, numD3, Nat.reduceAdd, atI0, atI1, atI2, atI3, atI4, ixN51, ixN52, ixN53, List.length_map, wNever, scal, V.int.injEq, V.str.injEq, V.bl.injEq, wSq, wNext, wBreak, wCont, wDrop, wRet, wRetN, wIfS, wAsg, wPar, wLstOwn, wAppend, wSetOwn, wIxOwn, wPeek, wRetOwn, wRetFr, wFor, wB, wNot, wAnd, wOr, wAndV, wOrV, wNotV, wIf, wChain, wNil, wCons, wCB, wTup, wLst, wNoPart, wPart, wSlT, wSlL, wSeq, wRng1, wRng2, wZip, wName, wNilT, wConsT, wTupT, wYes, wNeg, wVar, wC, wOp, wcNil, wcCons, wcOwn, wCall, wCallOwn, slots, cellsOf, OwnArgs, putBack, g2I, g2IC, gLen, gAbs, gGcd, gInt1, gTupleOf, gListOf, gIx, gCatT, gCat, gEq, gNe, gIsN, gNotN, scD, seqD_t, seqD_l, seqD_f, isNonD, List.nodup_cons, List.mem_cons, List.not_mem_nil, or_false, not_false_eq_true, Nat.reduceEqDiff, L3.Keeps, ends, wipeD, List.replicate, List.cons_append, List.nil_append, List.append_nil, List.getElem?_cons_zero, List.getElem?_cons_succ, List.set_cons_zero, List.set_cons_succ, List.getD_cons_zero, List.getD_cons_succ, List.length_cons, List.length_nil, List.nodup_nil, Option.some.injEq, Cell.dat.injEq, Cell.own.injEq, Cont.lst.injEq, D.bl.injEq, D.int.injEq, D.str.injEq, D.tup.injEq, D.lst.injEq, Arg.d.injEq, List.cons.injEq, exists_and_left, exists_and_right, exists_eq_left', exists_eq_left, exists_eq_right, exists_eq_right', exists_eq, exists_eq', and_true, true_and, and_assoc, and_self, exists_const, reduceCtorEq]
  refine ⟨by decide, fun p => l1__law_book_ok hc fun c ss c2 c3 c4 c5 hc s1 s4 hs => ?_⟩
  have f0 : ss.filter isSea = [] := List.filter_eq_nil_iff.mpr fun d hd => by rw [(hs d hd).2]; simp
  simp only [fs__law_draw, wListRg1, wListRg2, wRngDown, wZipK, gInL, gNotInT, wCatOwn, gIsB, gNotB, D.adr.injEq, Cont.pool.injEq, ixN31, ne_eq, List.map_cons, List.map_nil, wPoolOpen, wPoolClose, wPop0, wPopTo, wListOwn, wRemove, wRaise0, wRaise1, wAugOwn, wEnumL, wTru, wSlA, gCatA, gLtT, gLeT, wFrz, wChain3, wAttr, wMkF, wEnumT, wRevT, wDict0, wDict1, numD3, Nat.reduceAdd, atI0, atI1, atI2, atI3, atI4, ixN51, ixN52, ixN53, List.length_map, wNever, scal, V.int.injEq, V.str.injEq, V.bl.injEq, wSq, wNext, wBreak, wCont, wDrop, wRet, wRetN, wIfS, wAsg, wPar, wLstOwn, wAppend, wSetOwn, wIxOwn, wPeek, wRetOwn, wRetFr, wFor, wB, wNot, wAnd, wOr, wAndV, wOrV, wNotV, wIf, wChain, wNil, wCons, wCB, wTup, wLst, wNoPart, wPart, wSlT, wSlL, wSeq, wRng1, wRng2, wZip, wName, wNilT, wConsT, wTupT, wYes, wNeg, wVar, wC, wOp, wcNil, wcCons, wcOwn, wCall, wCallOwn, slots, cellsOf, OwnArgs, putBack, g2I, g2IC, gLen, gAbs, gGcd, gInt1, gTupleOf, gListOf, gIx, gCatT, gCat, gEq, gNe, gIsN, gNotN, scD, seqD_t, seqD_l, seqD_f, isNonD, List.nodup_cons, List.mem_cons, List.not_mem_nil, or_false, not_false_eq_true, Nat.reduceEqDiff, L3.Keeps, ends, wipeD, List.replicate, List.cons_append, List.nil_append, List.append_nil, List.getElem?_cons_zero, List.getElem?_cons_succ, List.set_cons_zero, List.set_cons_succ, List.getD_cons_zero, List.getD_cons_succ, List.length_cons, List.length_nil, List.nodup_nil, Option.some.injEq, Cell.dat.injEq, Cell.own.injEq, Cont.lst.injEq, D.bl.injEq, D.int.injEq, D.str.injEq, D.tup.injEq, D.lst.injEq, Arg.d.injEq, List.cons.injEq, exists_and_left, exists_and_right, exists_eq_left', exists_eq_left, exists_eq_right, exists_eq_right', exists_eq, exists_eq', and_true, true_and, and_assoc, and_self, exists_const, reduceCtorEq]
  refine ⟨hc, by decide, by decide, fun c1 n hc1 n0 n3 => ⟨fun _ => ⟨hc1, by decide, by decide, fun c2 b hc2 b0 b1 => ⟨by decide, hc2, by omega, by omega, fun c3 k hc3 k0 k1 => ?_⟩⟩, fun _ => ⟨by decide, fun pk => l2__law_book_ok hc1 ⟨fun d hd => (hs d hd).1, by rw [f0]; simp, s1, s4⟩ fun c ks c1 c2 c4 c5 h1 hc hl hk => ?_⟩⟩⟩
  · obtain ⟨j, rfl⟩ := Int.eq_ofNat_of_zero_le k0
    have hs' : SortsD (ss.set j (.tup [.int 0, .int (1 + b)])) := by
      refine ⟨fun d hd => ?_, sea_set j f0, by rw [List.length_set]; exact s1, by rw [List.length_set]; exact s4⟩
      rcases List.mem_or_eq_of_mem_set hd with h | rfl
      · exact (hs d h).1
      · exact so_mk (by decide) (by decide) (by omega) (by omega)
    refine ⟨j, ixN_lt (by omega), by decide, fun pk => l2__law_book_ok hc3 hs' fun c ks c1 c2 c4 c5 h1 hc hl hk => ?_⟩
    rcases h1 with rfl | rfl
    · simp only [wEor, wListRg1, wListRg2, wRngDown, wZipK, gInL, gNotInT, wCatOwn, gIsB, gNotB, D.adr.injEq, Cont.pool.injEq, ixN31, ne_eq, List.map_cons, List.map_nil, wPoolOpen, wPoolClose, wPop0, wPopTo, wListOwn, wRemove, wRaise0, wRaise1, wAugOwn, wEnumL, wTru, wSlA, gCatA, gLtT, gLeT, wFrz, wChain3, wAttr, wMkF, wEnumT, wRevT, wDict0, wDict1, numD3, Nat.reduceAdd, atI0, atI1, atI2, atI3, atI4, ixN51, ixN52, ixN53, List.length_map, wNever, scal, V.int.injEq, V.str.injEq, V.bl.injEq, wSq, wNext, wBreak, wCont, wDrop, wRet, wRetN, wIfS, wAsg, wPar, wLstOwn, wAppend, wSetOwn, wIxOwn, wPeek, wRetOwn, wRetFr, wFor, wB, wNot, wAnd, wOr, wAndV, wOrV, wNotV, wIf, wChain, wNil, wCons, wCB, wTup, wLst, wNoPart, wPart, wSlT, wSlL, wSeq, wRng1, wRng2, wZip, wName, wNilT, wConsT, wTupT, wYes, wNeg, wVar, wC, wOp, wcNil, wcCons, wcOwn, wCall, wCallOwn, slots, cellsOf, OwnArgs, putBack, g2I, g2IC, gLen, gAbs, gGcd, gInt1, gTupleOf, gListOf, gIx, gCatT, gCat, gEq, gNe, gIsN, gNotN, scD, seqD_t, seqD_l, seqD_f, isNonD, List.nodup_cons, List.mem_cons, List.not_mem_nil, or_false, not_false_eq_true, Nat.reduceEqDiff, L3.Keeps, ends, wipeD, List.replicate, List.cons_append, List.nil_append, List.append_nil, List.getElem?_cons_zero, List.getElem?_cons_succ, List.set_cons_zero, List.set_cons_succ, List.getD_cons_zero, List.getD_cons_succ, List.length_cons, List.length_nil, List.nodup_nil, Option.some.injEq, Cell.dat.injEq, Cell.own.injEq, Cont.lst.injEq, D.bl.injEq, D.int.injEq, D.str.injEq, D.tup.injEq, D.lst.injEq, Arg.d.injEq, List.cons.injEq, exists_and_left, exists_and_right, exists_eq_left', exists_eq_left, exists_eq_right, exists_eq_right', exists_eq, exists_eq', and_true, true_and, and_assoc, and_self, exists_const, reduceCtorEq]
      exact .inl ⟨by decide, hq c _ ks hc hs' hl hk⟩
    · simp only [wEor, wListRg1, wListRg2, wRngDown, wZipK, gInL, gNotInT, wCatOwn, gIsB, gNotB, D.adr.injEq, Cont.pool.injEq, ixN31, ne_eq, List.map_cons, List.map_nil, wPoolOpen, wPoolClose, wPop0, wPopTo, wListOwn, wRemove, wRaise0, wRaise1, wAugOwn, wEnumL, wTru, wSlA, gCatA, gLtT, gLeT, wFrz, wChain3, wAttr, wMkF, wEnumT, wRevT, wDict0, wDict1, numD3, Nat.reduceAdd, atI0, atI1, atI2, atI3, atI4, ixN51, ixN52, ixN53, List.length_map, wNever, scal, V.int.injEq, V.str.injEq, V.bl.injEq, wSq, wNext, wBreak, wCont, wDrop, wRet, wRetN, wIfS, wAsg, wPar, wLstOwn, wAppend, wSetOwn, wIxOwn, wPeek, wRetOwn, wRetFr, wFor, wB, wNot, wAnd, wOr, wAndV, wOrV, wNotV, wIf, wChain, wNil, wCons, wCB, wTup, wLst, wNoPart, wPart, wSlT, wSlL, wSeq, wRng1, wRng2, wZip, wName, wNilT, wConsT, wTupT, wYes, wNeg, wVar, wC, wOp, wcNil, wcCons, wcOwn, wCall, wCallOwn, slots, cellsOf, OwnArgs, putBack, g2I, g2IC, gLen, gAbs, gGcd, gInt1, gTupleOf, gListOf, gIx, gCatT, gCat, gEq, gNe, gIsN, gNotN, scD, seqD_t, seqD_l, seqD_f, isNonD, List.nodup_cons, List.mem_cons, List.not_mem_nil, or_false, not_false_eq_true, Nat.reduceEqDiff, L3.Keeps, ends, wipeD, List.replicate, List.cons_append, List.nil_append, List.append_nil, List.getElem?_cons_zero, List.getElem?_cons_succ, List.set_cons_zero, List.set_cons_succ, List.getD_cons_zero, List.getD_cons_succ, List.length_cons, List.length_nil, List.nodup_nil, Option.some.injEq, Cell.dat.injEq, Cell.own.injEq, Cont.lst.injEq, D.bl.injEq, D.int.injEq, D.str.injEq, D.tup.injEq, D.lst.injEq, Arg.d.injEq, List.cons.injEq, exists_and_left, exists_and_right, exists_eq_left', exists_eq_left, exists_eq_right, exists_eq_right', exists_eq, exists_eq', and_true, true_and, and_assoc, and_self, exists_const, reduceCtorEq]
      exact .inr ⟨by decide, hq c _ ks hc hs' hl hk⟩
  · have hs' : SortsD ss := ⟨fun d hd => (hs d hd).1, by rw [f0]; simp, s1, s4⟩
    rcases h1 with rfl | rfl
    · simp only [wEor, wListRg1, wListRg2, wRngDown, wZipK, gInL, gNotInT, wCatOwn, gIsB, gNotB, D.adr.injEq, Cont.pool.injEq, ixN31, ne_eq, List.map_cons, List.map_nil, wPoolOpen, wPoolClose, wPop0, wPopTo, wListOwn, wRemove, wRaise0, wRaise1, wAugOwn, wEnumL, wTru, wSlA, gCatA, gLtT, gLeT, wFrz, wChain3, wAttr, wMkF, wEnumT, wRevT, wDict0, wDict1, numD3, Nat.reduceAdd, atI0, atI1, atI2, atI3, atI4, ixN51, ixN52, ixN53, List.length_map, wNever, scal, V.int.injEq, V.str.injEq, V.bl.injEq, wSq, wNext, wBreak, wCont, wDrop, wRet, wRetN, wIfS, wAsg, wPar, wLstOwn, wAppend, wSetOwn, wIxOwn, wPeek, wRetOwn, wRetFr, wFor, wB, wNot, wAnd, wOr, wAndV, wOrV, wNotV, wIf, wChain, wNil, wCons, wCB, wTup, wLst, wNoPart, wPart, wSlT, wSlL, wSeq, wRng1, wRng2, wZip, wName, wNilT, wConsT, wTupT, wYes, wNeg, wVar, wC, wOp, wcNil, wcCons, wcOwn, wCall, wCallOwn, slots, cellsOf, OwnArgs, putBack, g2I, g2IC, gLen, gAbs, gGcd, gInt1, gTupleOf, gListOf, gIx, gCatT, gCat, gEq, gNe, gIsN, gNotN, scD, seqD_t, seqD_l, seqD_f, isNonD, List.nodup_cons, List.mem_cons, List.not_mem_nil, or_false, not_false_eq_true, Nat.reduceEqDiff, L3.Keeps, ends, wipeD, List.replicate, List.cons_append, List.nil_append, List.append_nil, List.getElem?_cons_zero, List.getElem?_cons_succ, List.set_cons_zero, List.set_cons_succ, List.getD_cons_zero, List.getD_cons_succ, List.length_cons, List.length_nil, List.nodup_nil, Option.some.injEq, Cell.dat.injEq, Cell.own.injEq, Cont.lst.injEq, D.bl.injEq, D.int.injEq, D.str.injEq, D.tup.injEq, D.lst.injEq, Arg.d.injEq, List.cons.injEq, exists_and_left, exists_and_right, exists_eq_left', exists_eq_left, exists_eq_right, exists_eq_right', exists_eq, exists_eq', and_true, true_and, and_assoc, and_self, exists_const, reduceCtorEq]
      exact .inl ⟨by decide, hq c _ ks hc hs' hl hk⟩
    · simp only [wEor, wListRg1, wListRg2, wRngDown, wZipK, gInL, gNotInT, wCatOwn, gIsB, gNotB, D.adr.injEq, Cont.pool.injEq, ixN31, ne_eq, List.map_cons, List.map_nil, wPoolOpen, wPoolClose, wPop0, wPopTo, wListOwn, wRemove, wRaise0, wRaise1, wAugOwn, wEnumL, wTru, wSlA, gCatA, gLtT, gLeT, wFrz, wChain3, wAttr, wMkF, wEnumT, wRevT, wDict0, wDict1, numD3, Nat.reduceAdd, atI0, atI1, atI2, atI3, atI4, ixN51, ixN52, ixN53, List.length_map, wNever, scal, V.int.injEq, V.str.injEq, V.bl.injEq, wSq, wNext, wBreak, wCont, wDrop, wRet, wRetN, wIfS, wAsg, wPar, wLstOwn, wAppend, wSetOwn, wIxOwn, wPeek, wRetOwn, wRetFr, wFor, wB, wNot, wAnd, wOr, wAndV, wOrV, wNotV, wIf, wChain, wNil, wCons, wCB, wTup, wLst, wNoPart, wPart, wSlT, wSlL, wSeq, wRng1, wRng2, wZip, wName, wNilT, wConsT, wTupT, wYes, wNeg, wVar, wC, wOp, wcNil, wcCons, wcOwn, wCall, wCallOwn, slots, cellsOf, OwnArgs, putBack, g2I, g2IC, gLen, gAbs, gGcd, gInt1, gTupleOf, gListOf, gIx, gCatT, gCat, gEq, gNe, gIsN, gNotN, scD, seqD_t, seqD_l, seqD_f, isNonD, List.nodup_cons, List.mem_cons, List.not_mem_nil, or_false, not_false_eq_true, Nat.reduceEqDiff, L3.Keeps, ends, wipeD, List.replicate, List.cons_append, List.nil_append, List.append_nil, List.getElem?_cons_zero, List.getElem?_cons_succ, List.set_cons_zero, List.set_cons_succ, List.getD_cons_zero, List.getD_cons_succ, List.length_cons, List.length_nil, List.nodup_nil, Option.some.injEq, Cell.dat.injEq, Cell.own.injEq, Cont.lst.injEq, D.bl.injEq, D.int.injEq, D.str.injEq, D.tup.injEq, D.lst.injEq, Arg.d.injEq, List.cons.injEq, exists_and_left, exists_and_right, exists_eq_left', exists_eq_left, exists_eq_right, exists_eq_right', exists_eq, exists_eq', and_true, true_and, and_assoc, and_self, exists_const, reduceCtorEq]
      exact .inr ⟨by decide, hq c _ ks hc hs' hl hk⟩
theorem ok__law_book (T : Txt K mg) : FnOk P w K mg base (L2.CX P w) 5 T.f__law_book T.fd__law_book ["source"] (spOf K 1 (fs__law_book K)) := by
  refine def_ok T.F__law_book sc__law_book (wb := w__law_book K) pure__law_book ?_
  intro cdv A outer s H E hr tk
  exact ⟨_, (pss_cons (ps_set (i := 1) sc__law_book.nd rfl (by first | exact Or.inl rfl | exact Or.inr rfl) (pe_lst pa_nil))
      (pss_cons (ps_for (passes_of rfl) rfl (pi_range1 (by rfl) T.z_range (pa_cons (pe_op op_add pe_int (pe_callS (ok__law_draw T) (hr.mono (by decide)) rfl T.g__law_draw T.k__law_draw T.b__law_draw (fun σ => passAt tk σ) (pa_cons (pv 0) (pa_cons pe_int pa_nil)))) pa_nil)) (pg_name (i := 2) sc__law_book.nd rfl (by first | exact Or.inl rfl | exact Or.inr rfl))
        (pss_one (ps_expr (pe_bm PySem.F.plainAttrs_list PySem.F.slot_list_append PySem.F.type_list_append mt_append (pv 1) (pa_cons (pe_tup (pa_cons (pe_op op_add pe_int (pe_callS (ok__law_draw T) (hr.mono (by decide)) rfl T.g__law_draw T.k__law_draw T.b__law_draw (fun σ => passAt tk σ) (pa_cons (pv 0) (pa_cons pe_int pa_nil)))) (pa_cons (pe_op op_add pe_int (pe_callS (ok__law_draw T) (hr.mono (by decide)) rfl T.g__law_draw T.k__law_draw T.b__law_draw (fun σ => passAt tk σ) (pa_cons (pv 0) (pa_cons pe_int pa_nil)))) pa_nil))) pa_nil)))))
      (pss_cons (ps_if (pt_cmpR op_eq (pe_callS (ok__law_draw T) (hr.mono (by decide)) rfl T.g__law_draw T.k__law_draw T.b__law_draw (fun σ => passAt tk σ) (pa_cons (pv 0) (pa_cons pe_int pa_nil))) pe_int (nomark _))
        (pss_one (ps_asg (pe_tup (pa_cons pe_int (pa_cons (pe_op op_add pe_int (pe_callS (ok__law_draw T) (hr.mono (by decide)) rfl T.g__law_draw T.k__law_draw T.b__law_draw (fun σ => passAt tk σ) (pa_cons (pv 0) (pa_cons pe_int pa_nil)))) pa_nil))) (pg_sub (pv 1) (pe_callS (ok__law_draw T) (hr.mono (by decide)) rfl T.g__law_draw T.k__law_draw T.b__law_draw (fun σ => passAt tk σ) (pa_cons (pv 0) (pa_cons (pe_callB call_len_seq (by rfl) T.z_len (by decide +kernel) (pa_cons (pv 1) pa_nil)) pa_nil))) set_list)))
        pss_nil)
      (pss_cons (ps_set (i := 3) sc__law_book.nd rfl (by first | exact Or.inl rfl | exact Or.inr rfl) (pe_lst pa_nil))
      (pss_cons (ps_for (passes_of rfl) rfl (pi_range1 (by rfl) T.z_range (pa_cons (pe_callS (ok__law_draw T) (hr.mono (by decide)) rfl T.g__law_draw T.k__law_draw T.b__law_draw (fun σ => passAt tk σ) (pa_cons (pv 0) (pa_cons pe_int pa_nil))) pa_nil)) (pg_name (i := 2) sc__law_book.nd rfl (by first | exact Or.inl rfl | exact Or.inr rfl))
        (pss_cons (ps_set (i := 4) sc__law_book.nd rfl (by first | exact Or.inl rfl | exact Or.inr rfl) (pe_callS (ok__law_joins T) (hr.mono (by decide)) rfl T.g__law_joins T.k__law_joins T.b__law_joins (fun σ => passAt tk σ) (pa_cons (pv 0) (pa_cons (pv 1) pa_nil))))
      (pss_cons (ps_set (i := 5) sc__law_book.nd rfl (by first | exact Or.inl rfl | exact Or.inr rfl) (pe_callS (ok__law_steps T) (hr.mono (by decide)) rfl T.g__law_steps T.k__law_steps T.b__law_steps (fun σ => passAt tk σ) (pa_cons (pv 0) (pa_cons pe_int (pa_cons pe_bl pa_nil)))))
      (pss_one (ps_if (pt_cmpR op_gt (pe_callB call_len_seq (by rfl) T.z_len (by decide +kernel) (pa_cons (pv 4) pa_nil)) pe_int (nomark _))
        (pss_one (ps_expr (pe_bm PySem.F.plainAttrs_list PySem.F.slot_list_append PySem.F.type_list_append mt_append (pv 3) (pa_cons (pe_tup (pa_cons (pv 5) (pa_cons (pv 4) pa_nil))) pa_nil))))
        pss_nil)))))
      (pss_one (ps_ret (pe_tup (pa_cons (pe_callTy call_tuple_of (by rfl) T.z_tuple (by decide +kernel) (pa_cons (pv 1) pa_nil)) (pa_cons (pe_callTy call_tuple_of (by rfl) T.z_tuple (by decide +kernel) (pa_cons (pv 3) pa_nil)) pa_nil)))))))))),
    (ds_seq (ds_lstOwn (i := 1) da_nil)
      (ds_seq (ds_for (wI := (wRng1 (wCons (wOp gAddI (wC (.int 1)) (wCall 2 (fs__law_draw K) (wcOwn 0 (wcCons (wC (.int 4)) wcNil)))) wNil))) (wg := (wName 2)) (wb := (wAppend 1 (wCons (wTup (wCons (wOp gAddI (wC (.int 1)) (wCall 2 (fs__law_draw K) (wcOwn 0 (wcCons (wC (.int 12)) wcNil)))) (wCons (wOp gAddI (wC (.int 1)) (wCall 2 (fs__law_draw K) (wcOwn 0 (wcCons (wC (.int 6)) wcNil)))) wNil))) wNil))) (di_rng1 (da_cons (de_op o_add de_int (de_call (n := 2) (fs := fs__law_draw K) (dac_own (j := 0) (dac_cons de_int dac_nil)))) da_nil)) (dg_name 2) (ds_append (i := 1) (da_cons (de_tup (da_cons (de_op o_add de_int (de_call (n := 2) (fs := fs__law_draw K) (dac_own (j := 0) (dac_cons de_int dac_nil)))) (da_cons (de_op o_add de_int (de_call (n := 2) (fs := fs__law_draw K) (dac_own (j := 0) (dac_cons de_int dac_nil)))) da_nil))) da_nil)))
      (ds_seq (ds_if (dt_B (de_op o_eq (de_call (n := 2) (fs := fs__law_draw K) (dac_own (j := 0) (dac_cons de_int dac_nil))) de_int)) (ds_setOwn (i := 1) (de_tup (da_cons de_int (da_cons (de_op o_add de_int (de_call (n := 2) (fs := fs__law_draw K) (dac_own (j := 0) (dac_cons de_int dac_nil)))) da_nil))) (de_call (n := 2) (fs := fs__law_draw K) (dac_own (j := 0) (dac_cons (de_peek (i := 1) p_len) dac_nil)))) ds_nil)
      (ds_seq (ds_lstOwn (i := 3) da_nil)
      (ds_seq (ds_for (wI := (wRng1 (wCons (wCall 2 (fs__law_draw K) (wcOwn 0 (wcCons (wC (.int 6)) wcNil))) wNil))) (wg := (wName 2)) (wb := (wSq (wAsg (wCall 2 (fs__law_joins K) (wcOwn 0 (wcCons (wEor (wFrz 1) (wVar 1)) wcNil))) (wName 4))
  (wSq (wAsg (wCall 3 (fs__law_steps K) (wcOwn 0 (wcCons (wC (.int 6)) (wcCons (wC (.bl true)) wcNil)))) (wName 5))
  (wIfS (wB (wOp gGtI (wCB gLen (wCons (wVar 4) wNil)) (wC (.int 0)))) (wAppend 3 (wCons (wTup (wCons (wVar 5) (wCons (wVar 4) wNil))) wNil)) wNext)))) (di_rng1 (da_cons (de_call (n := 2) (fs := fs__law_draw K) (dac_own (j := 0) (dac_cons de_int dac_nil))) da_nil)) (dg_name 2) (ds_seq (ds_asg (de_call (n := 2) (fs := fs__law_joins K) (dac_own (j := 0) (dac_cons (de_eor (de_frz 1) (de_var 1)) dac_nil))) (dg_name 4))
      (ds_seq (ds_asg (de_call (n := 3) (fs := fs__law_steps K) (dac_own (j := 0) (dac_cons de_int (dac_cons de_bl dac_nil)))) (dg_name 5))
      (ds_if (dt_B (de_op o_gt (de_cb o_len (da_cons (de_var 4) da_nil)) de_int)) (ds_append (i := 3) (da_cons (de_tup (da_cons (de_var 5) (da_cons (de_var 4) da_nil))) da_nil)) ds_nil))))
      (ds_ret (de_tup (da_cons (de_eor (de_peek (i := 1) p_tupleOf) (de_cb o_tupleOf (da_cons (de_var 1) da_nil))) (da_cons (de_peek (i := 3) p_tupleOf) da_nil)))))))))⟩
abbrev s__law_other_web : Stmt := topS 51
theorem sc__law_other_web : FnScope ["source", "widths", "pipes", "kind", "place"] ["source", "widths", "pipes"] (defScope s__law_other_web) := ⟨rfl, rfl, rfl, by decide +kernel, rfl, by decide +kernel, by decide +kernel⟩
def w__law_other_web (K : PySem.W.Frag) : SW := (wSq (wAsg (wCall 2 (fs__law_draw K) (wcOwn 0 (wcCons (wC (.int 6)) wcNil))) (wName 3))
  (wSq (wIfS (wB (wOp gEq (wVar 3) (wC (.int 0)))) (wRet (wTup (wCons (wCall 3 (fs__law_with K) (wcCons (wVar 1) (wcCons (wCall 2 (fs__law_draw K) (wcOwn 0 (wcCons (wCB gLen (wCons (wVar 1) wNil)) wcNil))) (wcCons (wOp gAddI (wC (.int 1)) (wCall 2 (fs__law_draw K) (wcOwn 0 (wcCons (wC (.int 12)) wcNil)))) wcNil)))) (wCons (wVar 2) wNil)))) wNext)
  (wSq (wIfS (wOr (wB (wOp gEq (wCB gLen (wCons (wVar 2) wNil)) (wC (.int 0)))) (wB (wOp gEq (wVar 3) (wC (.int 1))))) (wRet (wTup (wCons (wOp gCatA (wVar 1) (wTup (wCons (wC (.int 1)) wNil))) (wCons (wVar 2) wNil)))) wNext)
  (wSq (wAsg (wCall 2 (fs__law_draw K) (wcOwn 0 (wcCons (wCB gLen (wCons (wVar 2) wNil)) wcNil))) (wName 4))
  (wSq (wIfS (wB (wOp gEq (wVar 3) (wC (.int 2)))) (wRet (wTup (wCons (wVar 1) (wCons (wOp gCatA (wSlA (wVar 2) wNoPart (wPart (wVar 4))) (wSlA (wVar 2) (wPart (wOp gAddI (wVar 4) (wC (.int 1)))) wNoPart)) wNil)))) wNext)
  (wSq (wIfS (wB (wOp gEq (wVar 3) (wC (.int 3)))) (wRet (wTup (wCons (wVar 1) (wCons (wCall 3 (fs__law_with K) (wcCons (wVar 2) (wcCons (wVar 4) (wcCons (wCall 4 (fs__law_pipe K) (wcOwn 0 (wcCons (wCB gLen (wCons (wVar 1) wNil)) (wcCons (wC (.int 6)) (wcCons (wC (.bl true)) wcNil))))) wcNil)))) wNil)))) wNext)
  (wSq (wIfS (wB (wOp gEq (wVar 3) (wC (.int 4)))) (wRet (wTup (wCons (wVar 1) (wCons (wOp gCatA (wSlA (wVar 2) (wPart (wVar 4)) wNoPart) (wSlA (wVar 2) wNoPart (wPart (wVar 4)))) wNil)))) wNext)
  (wRet (wTup (wCons (wVar 1) (wCons (wCall 3 (fs__law_with K) (wcCons (wVar 2) (wcCons (wVar 4) (wcCons (wCall 3 (fs__law_with K) (wcCons (wOp gIx (wVar 2) (wVar 4)) (wcCons (wC (.int 2)) (wcCons (wCall 3 (fs__law_steps K) (wcOwn 0 (wcCons (wC (.int 6)) (wcCons (wC (.bl true)) wcNil)))) wcNil)))) wcNil)))) wNil)))))))))))
/-- widths and pipes of a web -/
structure WebD (us ps : List D) : Prop where
  l1 : 1 ≤ us.length
  l2 : us.length ≤ 12
  w : ∀ d ∈ us, WidD d
  p : ∀ d ∈ ps, PipD us.length d
  n : ps.length ≤ 30
theorem PipD.mono {v w : Int} {d : D} (h : PipD v d) (hw : v ≤ w) : PipD w d := by
  obtain ⟨a, b, es, rfl, h1, h2, h3, h4⟩ := h
  exact ⟨a, b, es, rfl, h1, h2, by omega, h4⟩
theorem set_all {P : D → Prop} {es : List D} {n : Nat} {x : D} (h : ∀ d ∈ es, P d) (hx : P x) : ∀ d ∈ es.set n x, P d := fun d hd => by
  rcases List.mem_or_eq_of_mem_set hd with h' | rfl
  · exact h d h'
  · exact hx
theorem cut_all {P : D → Prop} {es : List D} {lo hi : Option Int} (h : ∀ d ∈ es, P d) : ∀ d ∈ cutDs es lo hi, P d := fun d hd => h d (cut_sub.2 d hd)
def fs__law_other_web (K : PySem.W.Frag) : FS := fun cs q _ => ∃ (p : Addr) (c : Cont) (us ps : List D), cs = [.own p c, .dat (.tup us), .dat (.tup ps)] ∧ SrcC c ∧ WebD us ps ∧ us.length ≤ 11 ∧ 2 ≤ us.length ∧ ps.length ≤ 10 ∧
  ∀ (c' : Cont) (us' ps' : List D), SrcC c' → WebD us' ps' → q (.tup [.tup us', .tup ps']) [.own p c', .dat (.tup us), .dat (.tup ps)]
theorem pure__law_other_web : PureD 3 2 (fs__law_other_web K) (w__law_other_web K) := by
  rintro cs q e - ⟨p, c, us, ps, rfl, hc, h, l11, l2, l10, hq⟩
  simp only [w__law_other_web, fs__law_draw, fs__law_with, fs__law_pipe, fs__law_steps, wListRg1, wListRg2, wRngDown, wZipK, gInL, gNotInT, wCatOwn, gIsB, gNotB, D.adr.injEq, Cont.pool.injEq, ixN31, ne_eq, List.map_cons, List.map_nil, wPoolOpen, wPoolClose, wPop0, wPopTo, wListOwn, wRemove, wRaise0, wRaise1, wAugOwn, wEnumL, wTru, wSlA, gCatA, gLtT, gLeT, wFrz, wChain3, wAttr, wMkF, wEnumT, wRevT, wDict0, wDict1, numD3, Nat.reduceAdd, atI0, atI1, atI2, atI3, atI4, ixN51, ixN52, ixN53, List.length_map, wNever, scal, V.int.injEq, V.str.injEq, V.bl.injEq, wSq, wNext, wBreak, wCont, wDrop, wRet, wRetN, wIfS, wAsg, wPar, wLstOwn, wAppend, wSetOwn, wIxOwn, wPeek, wRetOwn, wRetFr, wFor, wB, wNot, wAnd, wOr, wAndV, wOrV, wNotV, wIf, wChain, wNil, wCons, wCB, wTup, wLst, wNoPart, wPart, wSlT, wSlL, wSeq, wRng1, wRng2, wZip, wName, wNilT, wConsT, wTupT, wYes, wNeg, wVar, wC, wOp, wcNil, wcCons, wcOwn, wCall, wCallOwn, slots, cellsOf, OwnArgs, putBack, g2I, g2IC, gLen, gAbs, gGcd, gInt1, gTupleOf, gListOf, gIx, gCatT, gCat, gEq, gNe, gIsN, gNotN, scD, seqD_t, seqD_l, seqD_f, isNonD, List.nodup_cons, List.mem_cons, List.not_mem_nil, or_false, not_false_eq_true, Nat.reduceEqDiff, L3.Keeps, ends, wipeD, List.replicate, List.cons_append, List.nil_append, List.append_nil, List.getElem?_cons_zero, List.getElem?_cons_succ, List.set_cons_zero, List.set_cons_succ, List.getD_cons_zero, List.getD_cons_succ, List.length_cons, List.length_nil, List.nodup_nil, Option.some.injEq, Cell.dat.injEq, Cell.own.injEq, Cont.lst.injEq, D.bl.injEq, D.int.injEq, D.str.injEq, D.tup.injEq, D.lst.injEq, Arg.d.injEq, List.cons.injEq, exists_and_left, exists_and_right, exists_eq_left', exists_eq_left, exists_eq_right, exists_eq_right', exists_eq, exists_eq', and_true, true_and, and_assoc, and_self, exists_const, reduceCtorEq]
  have pn := h.n
  have wA : ∀ (c : Cont), SrcC c → 1 ≤ 1000 ∧ us.length + 1 ≤ 1000 ∧ 2 ≤ 1000 ∧ q (.tup [.tup (us ++ [.int 1]), .tup ps]) [.own p c, .dat (.tup us), .dat (.tup ps)] := fun c hc => ⟨by decide, by omega, by decide, hq c _ _ hc ⟨by simp, by simp; omega, all_snoc h.w ⟨1, rfl, by decide, by decide⟩, fun d hd => (h.p d hd).mono (by simp; omega), pn⟩⟩
  have wP : ∀ (c : Cont) (ps' : List D), SrcC c → (∀ d ∈ ps', PipD us.length d) → ps'.length ≤ 30 → q (.tup [.tup us, .tup ps']) [.own p c, .dat (.tup us), .dat (.tup ps)] := fun c ps' hc hp hl => hq c _ _ hc ⟨h.l1, h.l2, h.w, hp, hl⟩
  have cat : ∀ (a b : Option Int) (x y : Option Int), (cutDs ps a b).length + (cutDs ps x y).length ≤ 20 ∧ ∀ d ∈ cutDs ps a b ++ cutDs ps x y, PipD us.length d := fun a b x y => by
    have e1 := (cut_sub (es := ps) (lo := a) (hi := b)).1
    have e2 := (cut_sub (es := ps) (lo := x) (hi := y)).1
    refine ⟨by omega, fun d hd => ?_⟩
    rcases List.mem_append.mp hd with hd | hd
    · exact cut_all h.p d hd
    · exact cut_all h.p d hd
  refine ⟨hc, by decide, by decide, fun c1 n hc1 n0 n6 => ⟨fun _ => ⟨hc1, by omega, by omega, fun c2 m hc2 m0 m1 => ⟨hc2, by decide, by decide, fun c3 w hc3 w0 w1 => ⟨m0, m1, by omega, by decide, hq c3 _ _ hc3 ⟨by rw [List.length_set]; omega, by rw [List.length_set]; omega, set_all h.w ⟨_, rfl, by omega, by omega⟩, by rw [List.length_set]; exact h.p, pn⟩⟩⟩⟩, fun _ => ⟨fun z1 => ⟨fun _ => wA c1 hc1, fun _ => ?_⟩, fun _ => ⟨fun _ => wA c1 hc1, fun z => z.elim⟩⟩⟩⟩
  have z1 := of_decide_eq_false z1
  refine ⟨hc1, by omega, by omega, fun c2 m hc2 m0 m1 => ⟨fun _ => ?_, fun _ => ⟨fun _ => ⟨hc2, by omega, by omega, by decide, by decide, fun c3 x hc3 hx => ⟨m0, m1, by omega, by decide, wP c3 _ hc3 (set_all h.p hx) (by rw [List.length_set]; exact pn)⟩⟩, fun _ => ⟨fun _ => ?_, fun _ => ?_⟩⟩⟩⟩
  · obtain ⟨e1, e2⟩ := cat none (some m) (some (m + 1)) none
    exact ⟨by omega, by decide, wP c2 _ hc2 e2 (by rw [List.length_append]; omega)⟩
  · obtain ⟨e1, e2⟩ := cat (some m) none none (some m)
    exact ⟨by omega, by decide, wP c2 _ hc2 e2 (by rw [List.length_append]; omega)⟩
  · obtain ⟨j, rfl⟩ := Int.eq_ofNat_of_zero_le m0
    have hj : j < ps.length := by omega
    obtain ⟨a, b, gs, e, a0, ab, bv, hs⟩ := h.p _ (List.getElem_mem hj)
    have aj : atI ps ((j : Nat) : Int) = some (.tup [.int a, .int b, .tup gs]) := atI_nat' (by rw [List.getElem?_eq_getElem hj, e])
    refine ⟨_, aj, hc2, by decide, by decide, fun c3 es hc3 _ he => ⟨_, rfl, by decide, by simp, by simp, m0, m1, by omega, by decide, wP c3 _ hc3 (set_all h.p ⟨a, b, es, rfl, a0, ab, bv, he⟩) (by rw [List.length_set]; exact pn)⟩⟩
theorem ok__law_other_web (T : Txt K mg) : FnOk P w K mg base (L2.CX P w) 6 T.f__law_other_web T.fd__law_other_web ["source", "widths", "pipes"] (spOf K 3 (fs__law_other_web K)) := by
  refine def_ok T.F__law_other_web sc__law_other_web (wb := w__law_other_web K) pure__law_other_web ?_
  intro cdv A outer s H E hr tk
  exact ⟨_, (pss_cons (ps_set (i := 3) sc__law_other_web.nd rfl (by first | exact Or.inl rfl | exact Or.inr rfl) (pe_callS (ok__law_draw T) (hr.mono (by decide)) rfl T.g__law_draw T.k__law_draw T.b__law_draw (fun σ => passAt tk σ) (pa_cons (pv 0) (pa_cons pe_int pa_nil))))
      (pss_cons (ps_if (pt_cmpR op_eq (pv 3) pe_int (nomark _))
        (pss_one (ps_ret (pe_tup (pa_cons (pe_callS (ok__law_with T) (hr.mono (by decide)) rfl T.g__law_with T.k__law_with T.b__law_with (fun σ => passAt tk σ) (pa_cons (pv 1) (pa_cons (pe_callS (ok__law_draw T) (hr.mono (by decide)) rfl T.g__law_draw T.k__law_draw T.b__law_draw (fun σ => passAt tk σ) (pa_cons (pv 0) (pa_cons (pe_callB call_len_seq (by rfl) T.z_len (by decide +kernel) (pa_cons (pv 1) pa_nil)) pa_nil))) (pa_cons (pe_op op_add pe_int (pe_callS (ok__law_draw T) (hr.mono (by decide)) rfl T.g__law_draw T.k__law_draw T.b__law_draw (fun σ => passAt tk σ) (pa_cons (pv 0) (pa_cons pe_int pa_nil)))) pa_nil)))) (pa_cons (pv 2) pa_nil)))))
        pss_nil)
      (pss_cons (ps_if (PW.pt (pw_or (pt_cmpR op_eq (pe_callB call_len_seq (by rfl) T.z_len (by decide +kernel) (pa_cons (pv 2) pa_nil)) pe_int (nomark _)) (pw_or1 (pt_cmpR op_eq (pv 3) pe_int (nomark _)))))
        (pss_one (ps_ret (pe_tup (pa_cons (pe_op op_catA (pv 1) (pe_tup (pa_cons pe_int pa_nil))) (pa_cons (pv 2) pa_nil)))))
        pss_nil)
      (pss_cons (ps_set (i := 4) sc__law_other_web.nd rfl (by first | exact Or.inl rfl | exact Or.inr rfl) (pe_callS (ok__law_draw T) (hr.mono (by decide)) rfl T.g__law_draw T.k__law_draw T.b__law_draw (fun σ => passAt tk σ) (pa_cons (pv 0) (pa_cons (pe_callB call_len_seq (by rfl) T.z_len (by decide +kernel) (pa_cons (pv 2) pa_nil)) pa_nil))))
      (pss_cons (ps_if (pt_cmpR op_eq (pv 3) pe_int (nomark _))
        (pss_one (ps_ret (pe_tup (pa_cons (pv 1) (pa_cons (pe_op op_catA (pe_slice sl_tupA (pv 2) po_none (po_some (pv 4))) (pe_slice sl_tupA (pv 2) (po_some (pe_op op_add (pv 4) pe_int)) po_none)) pa_nil)))))
        pss_nil)
      (pss_cons (ps_if (pt_cmpR op_eq (pv 3) pe_int (nomark _))
        (pss_one (ps_ret (pe_tup (pa_cons (pv 1) (pa_cons (pe_callS (ok__law_with T) (hr.mono (by decide)) rfl T.g__law_with T.k__law_with T.b__law_with (fun σ => passAt tk σ) (pa_cons (pv 2) (pa_cons (pv 4) (pa_cons (pe_callS (ok__law_pipe T) (hr.mono (by decide)) rfl T.g__law_pipe T.k__law_pipe T.b__law_pipe (fun σ => passAt tk σ) (pa_cons (pv 0) (pa_cons (pe_callB call_len_seq (by rfl) T.z_len (by decide +kernel) (pa_cons (pv 1) pa_nil)) (pa_cons pe_int (pa_cons pe_bl pa_nil))))) pa_nil)))) pa_nil)))))
        pss_nil)
      (pss_cons (ps_if (pt_cmpR op_eq (pv 3) pe_int (nomark _))
        (pss_one (ps_ret (pe_tup (pa_cons (pv 1) (pa_cons (pe_op op_catA (pe_slice sl_tupA (pv 2) (po_some (pv 4)) po_none) (pe_slice sl_tupA (pv 2) po_none (po_some (pv 4)))) pa_nil)))))
        pss_nil)
      (pss_one (ps_ret (pe_tup (pa_cons (pv 1) (pa_cons (pe_callS (ok__law_with T) (hr.mono (by decide)) rfl T.g__law_with T.k__law_with T.b__law_with (fun σ => passAt tk σ) (pa_cons (pv 2) (pa_cons (pv 4) (pa_cons (pe_callS (ok__law_with T) (hr.mono (by decide)) rfl T.g__law_with T.k__law_with T.b__law_with (fun σ => passAt tk σ) (pa_cons (pe_ix ix_seq (pv 2) (pv 4) (fun _ _ => rfl)) (pa_cons pe_int (pa_cons (pe_callS (ok__law_steps T) (hr.mono (by decide)) rfl T.g__law_steps T.k__law_steps T.b__law_steps (fun σ => passAt tk σ) (pa_cons (pv 0) (pa_cons pe_int (pa_cons pe_bl pa_nil)))) pa_nil)))) pa_nil)))) pa_nil)))))))))))),
    (ds_seq (ds_asg (de_call (n := 2) (fs := fs__law_draw K) (dac_own (j := 0) (dac_cons de_int dac_nil))) (dg_name 3))
      (ds_seq (ds_if (dt_B (de_op o_eq (de_var 3) de_int)) (ds_ret (de_tup (da_cons (de_call (n := 3) (fs := fs__law_with K) (dac_cons (de_var 1) (dac_cons (de_call (n := 2) (fs := fs__law_draw K) (dac_own (j := 0) (dac_cons (de_cb o_len (da_cons (de_var 1) da_nil)) dac_nil))) (dac_cons (de_op o_add de_int (de_call (n := 2) (fs := fs__law_draw K) (dac_own (j := 0) (dac_cons de_int dac_nil)))) dac_nil)))) (da_cons (de_var 2) da_nil)))) ds_nil)
      (ds_seq (ds_if (dt_or (dt_B (de_op o_eq (de_cb o_len (da_cons (de_var 2) da_nil)) de_int)) (dt_B (de_op o_eq (de_var 3) de_int))) (ds_ret (de_tup (da_cons (de_op o_catA (de_var 1) (de_tup (da_cons de_int da_nil))) (da_cons (de_var 2) da_nil)))) ds_nil)
      (ds_seq (ds_asg (de_call (n := 2) (fs := fs__law_draw K) (dac_own (j := 0) (dac_cons (de_cb o_len (da_cons (de_var 2) da_nil)) dac_nil))) (dg_name 4))
      (ds_seq (ds_if (dt_B (de_op o_eq (de_var 3) de_int)) (ds_ret (de_tup (da_cons (de_var 1) (da_cons (de_op o_catA (de_slA (de_var 2) do_no (do_part (de_var 4))) (de_slA (de_var 2) (do_part (de_op o_add (de_var 4) de_int)) do_no)) da_nil)))) ds_nil)
      (ds_seq (ds_if (dt_B (de_op o_eq (de_var 3) de_int)) (ds_ret (de_tup (da_cons (de_var 1) (da_cons (de_call (n := 3) (fs := fs__law_with K) (dac_cons (de_var 2) (dac_cons (de_var 4) (dac_cons (de_call (n := 4) (fs := fs__law_pipe K) (dac_own (j := 0) (dac_cons (de_cb o_len (da_cons (de_var 1) da_nil)) (dac_cons de_int (dac_cons de_bl dac_nil))))) dac_nil)))) da_nil)))) ds_nil)
      (ds_seq (ds_if (dt_B (de_op o_eq (de_var 3) de_int)) (ds_ret (de_tup (da_cons (de_var 1) (da_cons (de_op o_catA (de_slA (de_var 2) (do_part (de_var 4)) do_no) (de_slA (de_var 2) do_no (do_part (de_var 4)))) da_nil)))) ds_nil)
      (ds_ret (de_tup (da_cons (de_var 1) (da_cons (de_call (n := 3) (fs := fs__law_with K) (dac_cons (de_var 2) (dac_cons (de_var 4) (dac_cons (de_call (n := 3) (fs := fs__law_with K) (dac_cons (de_op o_ix (de_var 2) (de_var 4)) (dac_cons de_int (dac_cons (de_call (n := 3) (fs := fs__law_steps K) (dac_own (j := 0) (dac_cons de_int (dac_cons de_bl dac_nil)))) dac_nil)))) dac_nil)))) da_nil)))))))))))⟩
abbrev s__law_other_book : Stmt := topS 52
theorem sc__law_other_book : FnScope ["source", "sorts", "kinds", "kind", "place", "joins"] ["source", "sorts", "kinds"] (defScope s__law_other_book) := ⟨rfl, rfl, rfl, by decide +kernel, rfl, by decide +kernel, by decide +kernel⟩
def w__law_other_book (K : PySem.W.Frag) : SW := (wSq (wAsg (wCall 2 (fs__law_draw K) (wcOwn 0 (wcCons (wC (.int 5)) wcNil))) (wName 3))
  (wSq (wAsg (wCall 2 (fs__law_draw K) (wcOwn 0 (wcCons (wCB gLen (wCons (wVar 1) wNil)) wcNil))) (wName 4))
  (wSq (wIfS (wB (wOp gEq (wVar 3) (wC (.int 0)))) (wRet (wTup (wCons (wCall 3 (fs__law_with K) (wcCons (wVar 1) (wcCons (wVar 4) (wcCons (wTup (wCons (wOp gIx (wOp gIx (wVar 1) (wVar 4)) (wC (.int 0))) (wCons (wOp gAddI (wC (.int 1)) (wCall 2 (fs__law_draw K) (wcOwn 0 (wcCons (wC (.int 6)) wcNil)))) wNil))) wcNil)))) (wCons (wVar 2) wNil)))) wNext)
  (wSq (wIfS (wOr (wB (wOp gEq (wCB gLen (wCons (wVar 2) wNil)) (wC (.int 0)))) (wB (wOp gEq (wVar 3) (wC (.int 1))))) (wRet (wIf (wB (wOp gLtI (wCB gLen (wCons (wVar 1) wNil)) (wC (.int 4)))) (wTup (wCons (wOp gCatA (wSlA (wVar 1) wNoPart (wPart (wC (.int 3)))) (wTup (wCons (wTup (wCons (wC (.int 12)) (wCons (wC (.int 6)) wNil))) wNil))) (wCons (wVar 2) wNil))) (wTup (wCons (wVar 1) (wCons (wTup wNil) wNil))))) wNext)
  (wSq (wAsg (wCall 2 (fs__law_draw K) (wcOwn 0 (wcCons (wCB gLen (wCons (wVar 2) wNil)) wcNil))) (wName 4))
  (wSq (wIfS (wB (wOp gEq (wVar 3) (wC (.int 2)))) (wRet (wTup (wCons (wVar 1) (wCons (wOp gCatA (wSlA (wVar 2) wNoPart (wPart (wVar 4))) (wSlA (wVar 2) (wPart (wOp gAddI (wVar 4) (wC (.int 1)))) wNoPart)) wNil)))) wNext)
  (wSq (wIfS (wB (wOp gEq (wVar 3) (wC (.int 3)))) (wRet (wTup (wCons (wVar 1) (wCons (wOp gCatA (wSlA (wVar 2) (wPart (wVar 4)) wNoPart) (wSlA (wVar 2) wNoPart (wPart (wVar 4)))) wNil)))) wNext)
  (wSq (wAsg (wOp gIx (wOp gIx (wVar 2) (wVar 4)) (wC (.int 1))) (wName 5))
  (wRet (wTup (wCons (wVar 1) (wCons (wCall 3 (fs__law_with K) (wcCons (wVar 2) (wcCons (wVar 4) (wcCons (wTup (wCons (wCall 3 (fs__law_steps K) (wcOwn 0 (wcCons (wC (.int 6)) (wcCons (wC (.bl true)) wcNil)))) (wCons (wSlA (wVar 5) (wPart (wCall 2 (fs__law_draw K) (wcOwn 0 (wcCons (wCB gLen (wCons (wVar 5) wNil)) wcNil)))) wNoPart) wNil))) wcNil)))) wNil))))))))))))
/-- sorts and kinds of a book -/
structure BookD (ss ks : List D) : Prop where
  s : SortsD ss
  k : ∀ d ∈ ks, KindD ss d
  n : ks.length ≤ 5
theorem jo_mono {ss tt : List D} {d : D} (h : isJo ss d = true) (hl : ss.length ≤ tt.length) (hw : ∀ a : Int, 0 ≤ a → a < ss.length → wAt tt a = wAt ss a) : isJo tt d = true := by
  unfold isJo at h ⊢
  split at h
  · rename_i a b
    unfold jo at h ⊢
    simp only [Bool.and_eq_true, Bool.or_eq_true, decide_eq_true_eq] at h ⊢
    obtain ⟨⟨⟨h1, h2⟩, h3, h4⟩, h5⟩ := h
    refine ⟨⟨⟨h1, by omega⟩, h3, h4⟩, ?_⟩
    rw [hw a h3 (by omega)]
    exact h5
  · cases h
theorem KindD.mono {ss tt : List D} {d : D} (h : KindD ss d) (hl : ss.length ≤ tt.length) (hw : ∀ a : Int, 0 ≤ a → a < ss.length → wAt tt a = wAt ss a) : KindD tt d := by
  obtain ⟨es, js, rfl, h1, h2, h3, h4, h5⟩ := h
  exact ⟨es, js, rfl, h1, h2, h3, fun d hd => jo_mono (h4 d hd) hl hw, h5⟩
theorem sea_same {x y : D} : ∀ {ss : List D} {n : Nat}, ss[n]? = some y → isSea x = isSea y → ((ss.set n x).filter isSea).length = (ss.filter isSea).length
  | [], _, h, _ => by simp at h
  | z :: r, 0, h, e => by
    simp at h
    subst h
    rw [List.set_cons_zero, List.filter_cons, List.filter_cons, e]
    split <;> simp
  | z :: r, n + 1, h, e => by
    have := sea_same (ss := r) (n := n) (by simpa using h) e
    rw [List.set_cons_succ, List.filter_cons, List.filter_cons]
    split <;> simp [this]
theorem asc_drop {js : List D} {m : Nat} (h : ascJ js = true) : ascJ (js.drop m) = true := by
  unfold ascJ at h ⊢
  rw [List.all_eq_true] at h ⊢
  intro p hp
  have e : zipD (js.drop m) ((js.drop m).drop 1) = (zipD js (js.drop 1)).drop m := by
    unfold zipD
    rw [List.drop_zipWith, List.drop_drop, List.drop_drop, Nat.add_comm]
  rw [e] at hp
  exact h p (List.mem_of_mem_drop hp)
def fs__law_other_book (K : PySem.W.Frag) : FS := fun cs q _ => ∃ (p : Addr) (c : Cont) (ss ks : List D), cs = [.own p c, .dat (.tup ss), .dat (.tup ks)] ∧ SrcC c ∧ BookD ss ks ∧
  ∀ (c' : Cont) (ss' ks' : List D), SrcC c' → BookD ss' ks' → q (.tup [.tup ss', .tup ks']) [.own p c', .dat (.tup ss), .dat (.tup ks)]
theorem pure__law_other_book : PureD 3 3 (fs__law_other_book K) (w__law_other_book K) := by
  rintro cs q e - ⟨p, c, ss, ks, rfl, hc, h, hq⟩
  simp only [w__law_other_book, fs__law_draw, fs__law_with, fs__law_steps, wListRg1, wListRg2, wRngDown, wZipK, gInL, gNotInT, wCatOwn, gIsB, gNotB, D.adr.injEq, Cont.pool.injEq, ixN31, ne_eq, List.map_cons, List.map_nil, wPoolOpen, wPoolClose, wPop0, wPopTo, wListOwn, wRemove, wRaise0, wRaise1, wAugOwn, wEnumL, wTru, wSlA, gCatA, gLtT, gLeT, wFrz, wChain3, wAttr, wMkF, wEnumT, wRevT, wDict0, wDict1, numD3, Nat.reduceAdd, atI0, atI1, atI2, atI3, atI4, ixN51, ixN52, ixN53, List.length_map, wNever, scal, V.int.injEq, V.str.injEq, V.bl.injEq, wSq, wNext, wBreak, wCont, wDrop, wRet, wRetN, wIfS, wAsg, wPar, wLstOwn, wAppend, wSetOwn, wIxOwn, wPeek, wRetOwn, wRetFr, wFor, wB, wNot, wAnd, wOr, wAndV, wOrV, wNotV, wIf, wChain, wNil, wCons, wCB, wTup, wLst, wNoPart, wPart, wSlT, wSlL, wSeq, wRng1, wRng2, wZip, wName, wNilT, wConsT, wTupT, wYes, wNeg, wVar, wC, wOp, wcNil, wcCons, wcOwn, wCall, wCallOwn, slots, cellsOf, OwnArgs, putBack, g2I, g2IC, gLen, gAbs, gGcd, gInt1, gTupleOf, gListOf, gIx, gCatT, gCat, gEq, gNe, gIsN, gNotN, scD, seqD_t, seqD_l, seqD_f, isNonD, List.nodup_cons, List.mem_cons, List.not_mem_nil, or_false, not_false_eq_true, Nat.reduceEqDiff, L3.Keeps, ends, wipeD, List.replicate, List.cons_append, List.nil_append, List.append_nil, List.getElem?_cons_zero, List.getElem?_cons_succ, List.set_cons_zero, List.set_cons_succ, List.getD_cons_zero, List.getD_cons_succ, List.length_cons, List.length_nil, List.nodup_nil, Option.some.injEq, Cell.dat.injEq, Cell.own.injEq, Cont.lst.injEq, D.bl.injEq, D.int.injEq, D.str.injEq, D.tup.injEq, D.lst.injEq, Arg.d.injEq, List.cons.injEq, exists_and_left, exists_and_right, exists_eq_left', exists_eq_left, exists_eq_right, exists_eq_right', exists_eq, exists_eq', and_true, true_and, and_assoc, and_self, exists_const, reduceCtorEq]
  have hs := h.s
  have s1 := hs.2.2.1
  have s4 := hs.2.2.2
  have kn := h.n
  have wP : ∀ (c : Cont) (ks' : List D), SrcC c → (∀ d ∈ ks', KindD ss d) → ks'.length ≤ 5 → q (.tup [.tup ss, .tup ks']) [.own p c, .dat (.tup ss), .dat (.tup ks)] := fun c ks' hc hp hl => hq c _ _ hc ⟨hs, hp, hl⟩
  have wA : ∀ (c : Cont), SrcC c → (decide ((ss.length : Int) < 4) = true → 2 ≤ 1000 ∧ 1 ≤ 1000 ∧ (cutDs ss none (some 3)).length + 1 ≤ 1000 ∧ 2 ≤ 1000 ∧ q (.tup [.tup (cutDs ss none (some 3) ++ [.tup [.int 12, .int 6]]), .tup ks]) [.own p c, .dat (.tup ss), .dat (.tup ks)]) ∧ (decide ((ss.length : Int) < 4) = false → 0 ≤ 1000 ∧ 2 ≤ 1000 ∧ q (.tup [.tup ss, .tup []]) [.own p c, .dat (.tup ss), .dat (.tup ks)]) := fun c hc => by
    refine ⟨fun z => ?_, fun _ => ⟨by decide, by decide, wP c [] hc (fun d hd => by simp at hd) (by simp)⟩⟩
    have z := of_decide_eq_true z
    have e3 : cutDs ss none (some (3 : Int)) = ss := by
      have : cutDs ss none (some ((3 : Nat) : Int)) = ss.take 3 := cut_take
      rw [show ((3 : Int)) = ((3 : Nat) : Int) from rfl, this]
      exact List.take_of_length_le (by omega)
    rw [e3]
    refine ⟨by decide, by decide, by omega, by decide, hq c _ _ hc ⟨⟨all_snoc hs.1 (so_mk (by decide) (by decide) (by decide) (by decide)), ?_, by simp, by simp; omega⟩, fun d hd => (h.k d hd).mono (by simp) fun a a0 a1 => ?_, kn⟩⟩
    · rw [List.filter_append]
      have : [D.tup [.int 12, .int 6]].filter isSea = [] := by simp [isSea]
      rw [this, List.append_nil]
      exact hs.2.1
    · unfold wAt
      rw [List.getElem?_append_left (by omega)]
  refine ⟨hc, by decide, by decide, fun c1 n hc1 n0 n5 => ⟨hc1, by omega, by omega, fun c2 m hc2 m0 m1 => ⟨fun _ => ?_, fun _ => ⟨fun z1 => ⟨fun _ => wA c2 hc2, fun _ => ?_⟩, fun _ => ⟨fun _ => wA c2 hc2, fun z => z.elim⟩⟩⟩⟩⟩
  · obtain ⟨j, rfl⟩ := Int.eq_ofNat_of_zero_le m0
    have hj : j < ss.length := by omega
    obtain ⟨w, b, e2, w0, w1, _⟩ := so_shape (hs.1 _ (List.getElem_mem hj))
    have ej : ss[j]? = some (.tup [.int w, .int b]) := by rw [List.getElem?_eq_getElem hj, e2]
    refine ⟨_, atI_nat' ej, _, rfl, _, atI0, hc2, by decide, by decide, fun c3 k hc3 k0 k1 => ⟨by decide, m0, m1, by omega, by decide, hq c3 _ _ hc3 ⟨⟨set_all hs.1 (so_mk w0 w1 (by omega) (by omega)), ?_, by rw [List.length_set]; exact s1, by rw [List.length_set]; exact s4⟩, fun d hd => (h.k d hd).mono (by rw [List.length_set]; exact Nat.le_refl _) fun a a0 a1 => ?_, kn⟩⟩⟩
    · rw [Int.toNat_natCast, sea_same (x := .tup [.int w, .int (1 + k)]) ej rfl]
      exact hs.2.1
    · unfold wAt
      rw [Int.toNat_natCast, List.getElem?_set]
      by_cases ea : j = a.toNat
      · rw [if_pos ea, if_pos hj, ← ea, ej]
      · rw [if_neg ea]
  · have z1 := of_decide_eq_false z1
    refine ⟨hc2, by omega, by omega, fun c3 i hc3 i0 i1 => ?_⟩
    obtain ⟨i, rfl⟩ := Int.eq_ofNat_of_zero_le i0
    have hi : i < ks.length := by omega
    have e1 : cutDs ks none (some (i : Int)) = ks.take i := cut_take
    have e2 : cutDs ks (some (i : Int)) none = ks.drop i := cut_drop
    have e3 : cutDs ks (some ((i : Int) + 1)) none = ks.drop (i + 1) := by
      rw [show (i : Int) + 1 = ((i + 1 : Nat) : Int) by omega]
      exact cut_drop
    rw [e1, e2, e3]
    refine ⟨fun _ => ⟨?_, by decide, wP c3 _ hc3 (fun d hd => ?_) ?_⟩, fun _ => ⟨fun _ => ⟨?_, by decide, wP c3 _ hc3 (fun d hd => ?_) ?_⟩, fun _ => ?_⟩⟩
    · rw [List.length_take, List.length_drop]; omega
    · rcases List.mem_append.mp hd with hd | hd
      · exact h.k d (List.mem_of_mem_take hd)
      · exact h.k d (List.mem_of_mem_drop hd)
    · rw [List.length_append, List.length_take, List.length_drop]; omega
    · rw [List.length_take, List.length_drop]; omega
    · rcases List.mem_append.mp hd with hd | hd
      · exact h.k d (List.mem_of_mem_drop hd)
      · exact h.k d (List.mem_of_mem_take hd)
    · rw [List.length_append, List.length_take, List.length_drop]; omega
    · obtain ⟨es, js, ek, h1, h2, h3, h4, h5⟩ := h.k _ (List.getElem_mem hi)
      have ak : atI ks ((i : Nat) : Int) = some (.tup [.tup es, .tup js]) := atI_nat' (by rw [List.getElem?_eq_getElem hi, ek])
      refine ⟨_, ak, _, rfl, _, atI1, hc3, by decide, by decide, fun c4 es4 hc4 _ he4 => ?_⟩
      refine ⟨js, rfl, hc4, by omega, by omega, fun c5 m hc5 m0 m1 => ⟨js, rfl, by decide, i0, i1, by omega, by decide, ?_⟩⟩
      obtain ⟨m, rfl⟩ := Int.eq_ofNat_of_zero_le m0
      have ej : cutDs js (some (m : Int)) none = js.drop m := cut_drop
      rw [ej]
      exact wP c5 _ hc5 (set_all h.k ⟨es4, js.drop m, rfl, he4, by rw [List.length_drop]; omega, by rw [List.length_drop]; omega, fun d hd => h4 d (List.mem_of_mem_drop hd), asc_drop h5⟩) (by rw [List.length_set]; exact kn)
theorem ok__law_other_book (T : Txt K mg) : FnOk P w K mg base (L2.CX P w) 5 T.f__law_other_book T.fd__law_other_book ["source", "sorts", "kinds"] (spOf K 3 (fs__law_other_book K)) := by
  refine def_ok T.F__law_other_book sc__law_other_book (wb := w__law_other_book K) pure__law_other_book ?_
  intro cdv A outer s H E hr tk
  exact ⟨_, (pss_cons (ps_set (i := 3) sc__law_other_book.nd rfl (by first | exact Or.inl rfl | exact Or.inr rfl) (pe_callS (ok__law_draw T) (hr.mono (by decide)) rfl T.g__law_draw T.k__law_draw T.b__law_draw (fun σ => passAt tk σ) (pa_cons (pv 0) (pa_cons pe_int pa_nil))))
      (pss_cons (ps_set (i := 4) sc__law_other_book.nd rfl (by first | exact Or.inl rfl | exact Or.inr rfl) (pe_callS (ok__law_draw T) (hr.mono (by decide)) rfl T.g__law_draw T.k__law_draw T.b__law_draw (fun σ => passAt tk σ) (pa_cons (pv 0) (pa_cons (pe_callB call_len_seq (by rfl) T.z_len (by decide +kernel) (pa_cons (pv 1) pa_nil)) pa_nil))))
      (pss_cons (ps_if (pt_cmpR op_eq (pv 3) pe_int (nomark _))
        (pss_one (ps_ret (pe_tup (pa_cons (pe_callS (ok__law_with T) (hr.mono (by decide)) rfl T.g__law_with T.k__law_with T.b__law_with (fun σ => passAt tk σ) (pa_cons (pv 1) (pa_cons (pv 4) (pa_cons (pe_tup (pa_cons (pe_ix ix_seq (pe_ix ix_seq (pv 1) (pv 4) (fun _ _ => rfl)) pe_int (fun _ _ => rfl)) (pa_cons (pe_op op_add pe_int (pe_callS (ok__law_draw T) (hr.mono (by decide)) rfl T.g__law_draw T.k__law_draw T.b__law_draw (fun σ => passAt tk σ) (pa_cons (pv 0) (pa_cons pe_int pa_nil)))) pa_nil))) pa_nil)))) (pa_cons (pv 2) pa_nil)))))
        pss_nil)
      (pss_cons (ps_if (PW.pt (pw_or (pt_cmpR op_eq (pe_callB call_len_seq (by rfl) T.z_len (by decide +kernel) (pa_cons (pv 2) pa_nil)) pe_int (nomark _)) (pw_or1 (pt_cmpR op_eq (pv 3) pe_int (nomark _)))))
        (pss_one (ps_ret (pe_ifExp (pt_cmpR op_lt (pe_callB call_len_seq (by rfl) T.z_len (by decide +kernel) (pa_cons (pv 1) pa_nil)) pe_int (nomark _)) (pe_tup (pa_cons (pe_op op_catA (pe_slice sl_tupA (pv 1) po_none (po_some pe_int)) (pe_tup (pa_cons (pe_tup (pa_cons pe_int (pa_cons pe_int pa_nil))) pa_nil))) (pa_cons (pv 2) pa_nil))) (pe_tup (pa_cons (pv 1) (pa_cons (pe_tup pa_nil) pa_nil))))))
        pss_nil)
      (pss_cons (ps_set (i := 4) sc__law_other_book.nd rfl (by first | exact Or.inl rfl | exact Or.inr rfl) (pe_callS (ok__law_draw T) (hr.mono (by decide)) rfl T.g__law_draw T.k__law_draw T.b__law_draw (fun σ => passAt tk σ) (pa_cons (pv 0) (pa_cons (pe_callB call_len_seq (by rfl) T.z_len (by decide +kernel) (pa_cons (pv 2) pa_nil)) pa_nil))))
      (pss_cons (ps_if (pt_cmpR op_eq (pv 3) pe_int (nomark _))
        (pss_one (ps_ret (pe_tup (pa_cons (pv 1) (pa_cons (pe_op op_catA (pe_slice sl_tupA (pv 2) po_none (po_some (pv 4))) (pe_slice sl_tupA (pv 2) (po_some (pe_op op_add (pv 4) pe_int)) po_none)) pa_nil)))))
        pss_nil)
      (pss_cons (ps_if (pt_cmpR op_eq (pv 3) pe_int (nomark _))
        (pss_one (ps_ret (pe_tup (pa_cons (pv 1) (pa_cons (pe_op op_catA (pe_slice sl_tupA (pv 2) (po_some (pv 4)) po_none) (pe_slice sl_tupA (pv 2) po_none (po_some (pv 4)))) pa_nil)))))
        pss_nil)
      (pss_cons (ps_set (i := 5) sc__law_other_book.nd rfl (by first | exact Or.inl rfl | exact Or.inr rfl) (pe_ix ix_seq (pe_ix ix_seq (pv 2) (pv 4) (fun _ _ => rfl)) pe_int (fun _ _ => rfl)))
      (pss_one (ps_ret (pe_tup (pa_cons (pv 1) (pa_cons (pe_callS (ok__law_with T) (hr.mono (by decide)) rfl T.g__law_with T.k__law_with T.b__law_with (fun σ => passAt tk σ) (pa_cons (pv 2) (pa_cons (pv 4) (pa_cons (pe_tup (pa_cons (pe_callS (ok__law_steps T) (hr.mono (by decide)) rfl T.g__law_steps T.k__law_steps T.b__law_steps (fun σ => passAt tk σ) (pa_cons (pv 0) (pa_cons pe_int (pa_cons pe_bl pa_nil)))) (pa_cons (pe_slice sl_tupA (pv 5) (po_some (pe_callS (ok__law_draw T) (hr.mono (by decide)) rfl T.g__law_draw T.k__law_draw T.b__law_draw (fun σ => passAt tk σ) (pa_cons (pv 0) (pa_cons (pe_callB call_len_seq (by rfl) T.z_len (by decide +kernel) (pa_cons (pv 5) pa_nil)) pa_nil)))) po_none) pa_nil))) pa_nil)))) pa_nil))))))))))))),
    (ds_seq (ds_asg (de_call (n := 2) (fs := fs__law_draw K) (dac_own (j := 0) (dac_cons de_int dac_nil))) (dg_name 3))
      (ds_seq (ds_asg (de_call (n := 2) (fs := fs__law_draw K) (dac_own (j := 0) (dac_cons (de_cb o_len (da_cons (de_var 1) da_nil)) dac_nil))) (dg_name 4))
      (ds_seq (ds_if (dt_B (de_op o_eq (de_var 3) de_int)) (ds_ret (de_tup (da_cons (de_call (n := 3) (fs := fs__law_with K) (dac_cons (de_var 1) (dac_cons (de_var 4) (dac_cons (de_tup (da_cons (de_op o_ix (de_op o_ix (de_var 1) (de_var 4)) de_int) (da_cons (de_op o_add de_int (de_call (n := 2) (fs := fs__law_draw K) (dac_own (j := 0) (dac_cons de_int dac_nil)))) da_nil))) dac_nil)))) (da_cons (de_var 2) da_nil)))) ds_nil)
      (ds_seq (ds_if (dt_or (dt_B (de_op o_eq (de_cb o_len (da_cons (de_var 2) da_nil)) de_int)) (dt_B (de_op o_eq (de_var 3) de_int))) (ds_ret (de_if (dt_B (de_op o_lt (de_cb o_len (da_cons (de_var 1) da_nil)) de_int)) (de_tup (da_cons (de_op o_catA (de_slA (de_var 1) do_no (do_part de_int)) (de_tup (da_cons (de_tup (da_cons de_int (da_cons de_int da_nil))) da_nil))) (da_cons (de_var 2) da_nil))) (de_tup (da_cons (de_var 1) (da_cons (de_tup da_nil) da_nil))))) ds_nil)
      (ds_seq (ds_asg (de_call (n := 2) (fs := fs__law_draw K) (dac_own (j := 0) (dac_cons (de_cb o_len (da_cons (de_var 2) da_nil)) dac_nil))) (dg_name 4))
      (ds_seq (ds_if (dt_B (de_op o_eq (de_var 3) de_int)) (ds_ret (de_tup (da_cons (de_var 1) (da_cons (de_op o_catA (de_slA (de_var 2) do_no (do_part (de_var 4))) (de_slA (de_var 2) (do_part (de_op o_add (de_var 4) de_int)) do_no)) da_nil)))) ds_nil)
      (ds_seq (ds_if (dt_B (de_op o_eq (de_var 3) de_int)) (ds_ret (de_tup (da_cons (de_var 1) (da_cons (de_op o_catA (de_slA (de_var 2) (do_part (de_var 4)) do_no) (de_slA (de_var 2) do_no (do_part (de_var 4)))) da_nil)))) ds_nil)
      (ds_seq (ds_asg (de_op o_ix (de_op o_ix (de_var 2) (de_var 4)) de_int) (dg_name 5))
      (ds_ret (de_tup (da_cons (de_var 1) (da_cons (de_call (n := 3) (fs := fs__law_with K) (dac_cons (de_var 2) (dac_cons (de_var 4) (dac_cons (de_tup (da_cons (de_call (n := 3) (fs := fs__law_steps K) (dac_own (j := 0) (dac_cons de_int (dac_cons de_bl dac_nil)))) (da_cons (de_slA (de_var 5) (do_part (de_call (n := 2) (fs := fs__law_draw K) (dac_own (j := 0) (dac_cons (de_cb o_len (da_cons (de_var 5) da_nil)) dac_nil)))) do_no) da_nil))) dac_nil)))) da_nil))))))))))))⟩
abbrev s__law_alike : Stmt := topS 53
theorem sc__law_alike : FnScope ["one", "other", "due"] ["one", "other", "due"] (defScope s__law_alike) := ⟨rfl, rfl, rfl, by decide +kernel, rfl, by decide +kernel, by decide +kernel⟩
def w__law_alike (K : PySem.W.Frag) (Z : CT) : SW := (wSq (wIfS (wOr (wNot (wB (wCall 2 (fs__law_same K 6) (wcCons (wOp (gOr (gCmpO K Z.C_Web (fs_Web__eq__ K Z) false) (gCmpO K Z.C_Book (fs_Book__eq__ K Z) false)) (wVar 0) (wVar 1)) (wcCons (wVar 2) wcNil))))) (wNot (wB (wCall 2 (fs__law_same K 6) (wcCons (wOp (gOr (gCmpO K Z.C_Web (fs_Web__eq__ K Z) false) (gCmpO K Z.C_Book (fs_Book__eq__ K Z) false)) (wVar 1) (wVar 0)) (wcCons (wVar 2) wcNil)))))) (wRet (wC (.bl false))) wNext)
  (wRet (wAndV (wCall 2 (fs__law_same K 6) (wcCons (wOp (gOr (gCmpO K Z.C_Web (fs_Web__eq__ K Z) true) (gCmpO K Z.C_Book (fs_Book__eq__ K Z) true)) (wVar 0) (wVar 1)) (wcCons (wNotV (wVar 2)) wcNil))) (wCall 2 (fs__law_same K 6) (wcCons (wOp (gOr (gCmpO K Z.C_Web (fs_Web__eq__ K Z) true) (gCmpO K Z.C_Book (fs_Book__eq__ K Z) true)) (wVar 1) (wVar 0)) (wcCons (wNotV (wVar 2)) wcNil))))))
/-- what the law asks of the two classes -/
structure LawF (K : PySem.W.Frag) (Z : CT) : Prop where
  kw : KitF K Z.C_Web Z.C_Book
  kb : KitF K Z.C_Book Z.C_Web
  nw : NoSub K Z.C_Web
  nb : NoSub K Z.C_Book
  fw : PySem.W.notFirst K Z.C_Web (.ref Z.C_Book) = true
  fb : PySem.W.notFirst K Z.C_Book (.ref Z.C_Web) = true
theorem notFirst_self {C : Addr} : PySem.W.notFirst K C (.ref C) = true := by
  unfold PySem.W.notFirst
  simp
theorem eqB_symm : ∀ {n : Nat} {x y : D}, PlnD n x → PlnD n y → eqB x y = eqB y x
  | 0, _, _, h, _ => h.elim
  | n + 1, x, y, hx, hy => by
    rcases pln_cases hx with ⟨i, rfl⟩ | ⟨xs, rfl, lx, px⟩ <;> rcases pln_cases hy with ⟨j, rfl⟩ | ⟨ys, rfl, ly, py⟩
    · rw [eqB_int, eqB_int]
      exact Bool.beq_comm ..
    · unfold eqB
      rw [py_tup py]
      simp [pyD, toPy, PyData.eqv]
    · unfold eqB
      rw [py_tup px]
      simp [pyD, toPy, PyData.eqv]
    · unfold eqB
      rw [py_tup px, py_tup py]
      simp only [PyData.eqv]
      have key : ∀ (xs ys : List D), (∀ d ∈ xs, PlnD n d) → (∀ d ∈ ys, PlnD n d) → PyData.eqvAll (xs.map pyD) (ys.map pyD) = PyData.eqvAll (ys.map pyD) (xs.map pyD) := by
        intro xs
        induction xs with
        | nil => intro ys _ _; cases ys <;> simp [PyData.eqvAll]
        | cons a xs ih =>
          intro ys h1 h2
          cases ys with
          | nil => simp [PyData.eqvAll]
          | cons b ys =>
            simp only [List.map_cons, PyData.eqvAll]
            rw [ih ys (fun d hd => h1 d (by simp [hd])) (fun d hd => h2 d (by simp [hd]))]
            have := eqB_symm (h1 a (by simp)) (h2 b (by simp))
            unfold eqB at this
            rw [this]
      exact key xs ys px py
abbrev webI (Z : CT) (us ds : D) : D := .ins Z.C_Web [("widths", us), ("pipes", ds)]
abbrev bookI (Z : CT) (us ds : D) : D := .ins Z.C_Book [("sorts", us), ("kinds", ds)]
/-- a web or book, a thing, and whether they are equal -/
def AlkD (Z : CT) (x y : D) (due : Bool) : Prop :=
  (∃ us ds, x = webI Z us ds ∧ PlnD 5 us ∧ PlnD 5 ds ∧ ((BltD y ∧ due = false) ∨ (∃ us' ds', y = bookI Z us' ds' ∧ PlnD 5 us' ∧ PlnD 5 ds' ∧ due = false) ∨ ∃ us' ds', y = webI Z us' ds' ∧ PlnD 5 us' ∧ PlnD 5 ds' ∧ due = (eqB us us' && eqB ds ds'))) ∨
  (∃ us ds, x = bookI Z us ds ∧ PlnD 5 us ∧ PlnD 5 ds ∧ ((BltD y ∧ due = false) ∨ (∃ us' ds', y = webI Z us' ds' ∧ PlnD 5 us' ∧ PlnD 5 ds' ∧ due = false) ∨ ∃ us' ds', y = bookI Z us' ds' ∧ PlnD 5 us' ∧ PlnD 5 ds' ∧ due = (eqB us us' && eqB ds ds')))
theorem alk_left {Z : CT} {x y : D} {due neg : Bool} {q : D → Prop} (L : LawF K Z) (h : AlkD Z x y due) (hq : q (.bl (if neg then !due else due))) : gOr (gCmpO K Z.C_Web (fs_Web__eq__ K Z) neg) (gCmpO K Z.C_Book (fs_Book__eq__ K Z) neg) x y q := by
  rcases h with ⟨us, ds, rfl, h1, h2, h⟩ | ⟨us, ds, rfl, h1, h2, h⟩
  · refine .inl ⟨_, .inl ⟨rfl, ?_, us, ds, y, rfl, L.kw, h1, h2, ?_⟩⟩
    · rcases h with ⟨h, _⟩ | ⟨us', ds', rfl, _⟩ | ⟨us', ds', rfl, _⟩
      · exact .inl h
      · exact .inr ⟨_, _, rfl, L.fw⟩
      · exact .inr ⟨_, _, rfl, notFirst_self⟩
    · rcases h with ⟨h, rfl⟩ | ⟨us', ds', rfl, h3, h4, rfl⟩ | ⟨us', ds', rfl, h3, h4, rfl⟩
      · exact .inl ⟨h, _, rfl, hq⟩
      · exact .inr (.inl ⟨_, rfl, _, rfl, hq⟩)
      · exact .inr (.inr ⟨_, _, rfl, h3, h4, _, rfl, hq⟩)
  · refine .inr ⟨_, .inl ⟨rfl, ?_, us, ds, y, rfl, L.kb, h1, h2, ?_⟩⟩
    · rcases h with ⟨h, _⟩ | ⟨us', ds', rfl, _⟩ | ⟨us', ds', rfl, _⟩
      · exact .inl h
      · exact .inr ⟨_, _, rfl, L.fb⟩
      · exact .inr ⟨_, _, rfl, notFirst_self⟩
    · rcases h with ⟨h, rfl⟩ | ⟨us', ds', rfl, h3, h4, rfl⟩ | ⟨us', ds', rfl, h3, h4, rfl⟩
      · exact .inl ⟨h, _, rfl, hq⟩
      · exact .inr (.inl ⟨_, rfl, _, rfl, hq⟩)
      · exact .inr (.inr ⟨_, _, rfl, h3, h4, _, rfl, hq⟩)
theorem alk_right {Z : CT} {x y : D} {due neg : Bool} {q : D → Prop} (L : LawF K Z) (h : AlkD Z x y due) (hq : q (.bl (if neg then !due else due))) : gOr (gCmpO K Z.C_Web (fs_Web__eq__ K Z) neg) (gCmpO K Z.C_Book (fs_Book__eq__ K Z) neg) y x q := by
  rcases h with ⟨us, ds, rfl, h1, h2, h⟩ | ⟨us, ds, rfl, h1, h2, h⟩
  · rcases h with ⟨h, rfl⟩ | ⟨us', ds', rfl, h3, h4, rfl⟩ | ⟨us', ds', rfl, h3, h4, rfl⟩
    · exact .inl ⟨_, .inr ⟨rfl, h, L.nw, us, ds, y, rfl, L.kw, h1, h2, .inl ⟨h, _, rfl, hq⟩⟩⟩
    · exact .inr ⟨_, .inl ⟨rfl, .inr ⟨_, _, rfl, L.fb⟩, us', ds', _, rfl, L.kb, h3, h4, .inr (.inl ⟨_, rfl, _, rfl, hq⟩)⟩⟩
    · rw [eqB_symm h1 h3, eqB_symm h2 h4] at hq
      exact .inl ⟨_, .inl ⟨rfl, .inr ⟨_, _, rfl, notFirst_self⟩, us', ds', _, rfl, L.kw, h3, h4, .inr (.inr ⟨_, _, rfl, h1, h2, _, rfl, hq⟩)⟩⟩
  · rcases h with ⟨h, rfl⟩ | ⟨us', ds', rfl, h3, h4, rfl⟩ | ⟨us', ds', rfl, h3, h4, rfl⟩
    · exact .inr ⟨_, .inr ⟨rfl, h, L.nb, us, ds, y, rfl, L.kb, h1, h2, .inl ⟨h, _, rfl, hq⟩⟩⟩
    · exact .inl ⟨_, .inl ⟨rfl, .inr ⟨_, _, rfl, L.fw⟩, us', ds', _, rfl, L.kw, h3, h4, .inr (.inl ⟨_, rfl, _, rfl, hq⟩)⟩⟩
    · rw [eqB_symm h1 h3, eqB_symm h2 h4] at hq
      exact .inr ⟨_, .inl ⟨rfl, .inr ⟨_, _, rfl, notFirst_self⟩, us', ds', _, rfl, L.kb, h3, h4, .inr (.inr ⟨_, _, rfl, h1, h2, _, rfl, hq⟩)⟩⟩
def fs__law_alike (K : PySem.W.Frag) (Z : CT) : FS := fun cs q _ => ∃ (x y : D) (due : Bool), cs = [.dat x, .dat y, .dat (.bl due)] ∧ LawF K Z ∧ AlkD Z x y due ∧ q (.bl true) cs
theorem pure__law_alike {Z : CT} : PureD 3 0 (fs__law_alike K Z) (w__law_alike K Z) := by
  rintro cs q e - ⟨x, y, due, rfl, L, h, hq⟩
  simp only [w__law_alike, fs__law_same, wListRg1, wListRg2, wRngDown, wZipK, gInL, gNotInT, wCatOwn, gIsB, gNotB, D.adr.injEq, Cont.pool.injEq, ixN31, ne_eq, List.map_cons, List.map_nil, wPoolOpen, wPoolClose, wPop0, wPopTo, wListOwn, wRemove, wRaise0, wRaise1, wAugOwn, wEnumL, wTru, wSlA, gCatA, gLtT, gLeT, wFrz, wChain3, wAttr, wMkF, wEnumT, wRevT, wDict0, wDict1, numD3, Nat.reduceAdd, atI0, atI1, atI2, atI3, atI4, ixN51, ixN52, ixN53, List.length_map, wNever, scal, V.int.injEq, V.str.injEq, V.bl.injEq, wSq, wNext, wBreak, wCont, wDrop, wRet, wRetN, wIfS, wAsg, wPar, wLstOwn, wAppend, wSetOwn, wIxOwn, wPeek, wRetOwn, wRetFr, wFor, wB, wNot, wAnd, wOr, wAndV, wOrV, wNotV, wIf, wChain, wNil, wCons, wCB, wTup, wLst, wNoPart, wPart, wSlT, wSlL, wSeq, wRng1, wRng2, wZip, wName, wNilT, wConsT, wTupT, wYes, wNeg, wVar, wC, wOp, wcNil, wcCons, wcOwn, wCall, wCallOwn, slots, cellsOf, OwnArgs, putBack, g2I, g2IC, gLen, gAbs, gGcd, gInt1, gTupleOf, gListOf, gIx, gCatT, gCat, gEq, gNe, gIsN, gNotN, scD, seqD_t, seqD_l, seqD_f, isNonD, List.nodup_cons, List.mem_cons, List.not_mem_nil, or_false, not_false_eq_true, Nat.reduceEqDiff, L3.Keeps, ends, wipeD, List.replicate, List.cons_append, List.nil_append, List.append_nil, List.getElem?_cons_zero, List.getElem?_cons_succ, List.set_cons_zero, List.set_cons_succ, List.getD_cons_zero, List.getD_cons_succ, List.length_cons, List.length_nil, List.nodup_nil, Option.some.injEq, Cell.dat.injEq, Cell.own.injEq, Cont.lst.injEq, D.bl.injEq, D.int.injEq, D.str.injEq, D.tup.injEq, D.lst.injEq, Arg.d.injEq, List.cons.injEq, exists_and_left, exists_and_right, exists_eq_left', exists_eq_left, exists_eq_right, exists_eq_right', exists_eq, exists_eq', and_true, true_and, and_assoc, and_self, exists_const, reduceCtorEq]
  refine alk_left (neg := false) L h (.inr ⟨due, rfl, fun _ => ?_, fun z => by simp at z⟩)
  refine alk_right (neg := false) L h (.inr ⟨due, rfl, fun z => by simp at z, fun _ => ?_⟩)
  refine alk_left (neg := true) L h (.inr ⟨!due, rfl, fun _ => ?_, fun z => by simp at z⟩)
  exact alk_right (neg := true) L h (.inr ⟨!due, rfl, by simpa using hq⟩)
theorem ok__law_alike (T : Txt K mg) : FnOk P w K mg base (L2.CX P w) 7 T.f__law_alike T.fd__law_alike ["one", "other", "due"] (spOf K 3 (fs__law_alike K T.Z)) := by
  refine def_ok T.F__law_alike sc__law_alike (wb := w__law_alike K T.Z) pure__law_alike ?_
  intro cdv A outer s H E hr tk
  exact ⟨_, (pss_cons (ps_if (PW.pt (pw_or (pt_not (pt_val (pe_callS (ok__law_same T 6) (hr.mono (by decide)) rfl T.g__law_same T.k__law_same T.b__law_same (fun σ => passAt tk σ) (pa_cons (pe_cmpR (op_or (op_cmpO (neg := false) T.oc_Web (fnR0 (ok_Web__eq__ T) T.b_Web__eq__) (hr.mono (by decide)) (passF tk)) (op_cmpO (neg := false) T.oc_Book (fnR0 (ok_Book__eq__ T) T.b_Book__eq__) (hr.mono (by decide)) (passF tk))) (pv 0) (pv 1) (nomark _)) (pa_cons (pv 2) pa_nil))))) (pw_or1 (pt_not (pt_val (pe_callS (ok__law_same T 6) (hr.mono (by decide)) rfl T.g__law_same T.k__law_same T.b__law_same (fun σ => passAt tk σ) (pa_cons (pe_cmpR (op_or (op_cmpO (neg := false) T.oc_Web (fnR0 (ok_Web__eq__ T) T.b_Web__eq__) (hr.mono (by decide)) (passF tk)) (op_cmpO (neg := false) T.oc_Book (fnR0 (ok_Book__eq__ T) T.b_Book__eq__) (hr.mono (by decide)) (passF tk))) (pv 1) (pv 0) (nomark _)) (pa_cons (pv 2) pa_nil))))))))
        (pss_one (ps_ret pe_bl))
        pss_nil)
      (pss_one (ps_ret (pe_and (pe_callS (ok__law_same T 6) (hr.mono (by decide)) rfl T.g__law_same T.k__law_same T.b__law_same (fun σ => passAt tk σ) (pa_cons (pe_cmpR (op_or (op_cmpO (neg := true) T.oc_Web (fnR0 (ok_Web__eq__ T) T.b_Web__eq__) (hr.mono (by decide)) (passF tk)) (op_cmpO (neg := true) T.oc_Book (fnR0 (ok_Book__eq__ T) T.b_Book__eq__) (hr.mono (by decide)) (passF tk))) (pv 0) (pv 1) (nomark _)) (pa_cons (pe_not (pv 2)) pa_nil))) (pe_one (pe_callS (ok__law_same T 6) (hr.mono (by decide)) rfl T.g__law_same T.k__law_same T.b__law_same (fun σ => passAt tk σ) (pa_cons (pe_cmpR (op_or (op_cmpO (neg := true) T.oc_Web (fnR0 (ok_Web__eq__ T) T.b_Web__eq__) (hr.mono (by decide)) (passF tk)) (op_cmpO (neg := true) T.oc_Book (fnR0 (ok_Book__eq__ T) T.b_Book__eq__) (hr.mono (by decide)) (passF tk))) (pv 1) (pv 0) (nomark _)) (pa_cons (pe_not (pv 2)) pa_nil)))))))),
    (ds_seq (ds_if (dt_or (dt_not (dt_B (de_call (n := 2) (fs := (fs__law_same K 6)) (dac_cons (de_opT (o_or o_cmpO o_cmpO) (de_var 0) (de_var 1)) (dac_cons (de_var 2) dac_nil))))) (dt_not (dt_B (de_call (n := 2) (fs := (fs__law_same K 6)) (dac_cons (de_opT (o_or o_cmpO o_cmpO) (de_var 1) (de_var 0)) (dac_cons (de_var 2) dac_nil)))))) (ds_ret de_bl) ds_nil)
      (ds_ret (de_and (de_call (n := 2) (fs := (fs__law_same K 6)) (dac_cons (de_opT (o_or o_cmpO o_cmpO) (de_var 0) (de_var 1)) (dac_cons (de_not (de_var 2)) dac_nil))) (de_call (n := 2) (fs := (fs__law_same K 6)) (dac_cons (de_opT (o_or o_cmpO o_cmpO) (de_var 1) (de_var 0)) (dac_cons (de_not (de_var 2)) dac_nil))))))⟩
abbrev s_law : Stmt := topS 54
theorem sc_law : FnScope ["script", "source", "vessels", "widths", "pipes", "book", "web", "kept", "later", "thing"] ["script"] (defScope s_law) := ⟨rfl, rfl, rfl, by decide +kernel, rfl, by decide +kernel, by decide +kernel⟩
def l1_law (K : PySem.W.Frag) (Z : CT) : SW := wFor (wSeq (wLst (wCons (wTup (wCons (wVar 3) (wCons (wVar 4) wNil))) (wCons (wVar 5) (wCons (wC .non) (wCons (wC (.int 0)) (wCons (wC (.bl true)) (wCons (wC (.str "web")) (wCons (wLst wNil) (wCons wDict0 (wCons (wVar 3) (wCons (wVar 4) wNil)))))))))))) (wName 9) (wIfS (wOr (wNot (wB (wCall 3 (fs__law_alike K Z) (wcCons (wVar 6) (wcCons (wVar 9) (wcCons (wC (.bl false)) wcNil)))))) (wNot (wB (wCall 3 (fs__law_alike K Z) (wcCons (wVar 7) (wcCons (wVar 9) (wcCons (wC (.bl false)) wcNil))))))) (wRet (wC (.bl false))) wNext)
def t14_law (K : PySem.W.Frag) (Z : CT) : SW := (wRet (wAndV (wCall 3 (fs__law_alike K Z) (wcCons (wVar 6) (wcCons (wVar 7) (wcCons (wC (.bl false)) wcNil)))) (wAndV (wCall 2 (fs__law_same K 6) (wcCons (wAttr Z.C_Web "widths" (wVar 6)) (wcCons (wVar 3) wcNil))) (wCall 2 (fs__law_same K 6) (wcCons (wAttr Z.C_Book "kinds" (wVar 7)) (wcCons (wOp gIx (wVar 5) (wC (.int 1))) wcNil))))))
def t13_law (K : PySem.W.Frag) (Z : CT) : SW := (wSq (l1_law K Z)
  (t14_law K Z))
def t12_law (K : PySem.W.Frag) (Z : CT) : SW := (wSq (wIfS (wNot (wB (wCall 3 (fs__law_alike K Z) (wcCons (wVar 7) (wcCons (wMkI Z.C_Book 2 (fs_Book__init__ K Z) (wCons (wOp gIx (wVar 8) (wC (.int 0))) (wCons (wOp gIx (wVar 8) (wC (.int 1))) wNil))) (wcCons (wCall 2 (fs__law_same K 6) (wcCons (wVar 8) (wcCons (wVar 5) wcNil))) wcNil)))))) (wRet (wC (.bl false))) wNext)
  (t13_law K Z))
def t11_law (K : PySem.W.Frag) (Z : CT) : SW := (wSq (wAsg (wCall 3 (fs__law_other_book K) (wcOwn 1 (wcCons (wOp gIx (wVar 5) (wC (.int 0))) (wcCons (wOp gIx (wVar 5) (wC (.int 1))) wcNil)))) (wName 8))
  (t12_law K Z))
def t10_law (K : PySem.W.Frag) (Z : CT) : SW := (wSq (wIfS (wNot (wB (wCall 3 (fs__law_alike K Z) (wcCons (wVar 6) (wcCons (wMkI Z.C_Web 2 (fs_Web__init__ K Z) (wCons (wSlA (wOp gIx (wVar 8) (wC (.int 0))) wNoPart (wPart (wC (.int 12)))) (wCons (wOp gIx (wVar 8) (wC (.int 1))) wNil))) (wcCons (wCall 2 (fs__law_same K 6) (wcCons (wTup (wCons (wSlA (wOp gIx (wVar 8) (wC (.int 0))) wNoPart (wPart (wC (.int 12)))) (wCons (wOp gIx (wVar 8) (wC (.int 1))) wNil))) (wcCons (wTup (wCons (wVar 3) (wCons (wVar 4) wNil))) wcNil))) wcNil)))))) (wRet (wC (.bl false))) wNext)
  (t11_law K Z))
def t9_law (K : PySem.W.Frag) (Z : CT) : SW := (wSq (wAsg (wCall 3 (fs__law_other_web K) (wcOwn 1 (wcCons (wVar 3) (wcCons (wVar 4) wcNil)))) (wName 8))
  (t10_law K Z))
def t8_law (K : PySem.W.Frag) (Z : CT) : SW := (wSq (wIfS (wNot (wB (wCall 3 (fs__law_alike K Z) (wcCons (wVar 7) (wcCons (wMkI Z.C_Book 2 (fs_Book__init__ K Z) (wCons (wCB gTupleOf (wCons (wCB gListOf (wCons (wOp gIx (wVar 5) (wC (.int 0))) wNil)) wNil)) (wCons (wCB gTupleOf (wCons (wCB gListOf (wCons (wOp gIx (wVar 5) (wC (.int 1))) wNil)) wNil)) wNil))) (wcCons (wC (.bl true)) wcNil)))))) (wRet (wC (.bl false))) wNext)
  (t9_law K Z))
def t7_law (K : PySem.W.Frag) (Z : CT) : SW := (wSq (wIfS (wNot (wB (wCall 3 (fs__law_alike K Z) (wcCons (wVar 6) (wcCons (wMkI Z.C_Web 2 (fs_Web__init__ K Z) (wCons (wCB gTupleOf (wCons (wCB gListOf (wCons (wVar 3) wNil)) wNil)) (wCons (wCB gTupleOf (wCons (wCB gListOf (wCons (wVar 4) wNil)) wNil)) wNil))) (wcCons (wC (.bl true)) wcNil)))))) (wRet (wC (.bl false))) wNext)
  (t8_law K Z))
def t6_law (K : PySem.W.Frag) (Z : CT) : SW := (wSq (wAsg (wMkI Z.C_Book 2 (fs_Book__init__ K Z) (wCons (wOp gIx (wVar 5) (wC (.int 0))) (wCons (wOp gIx (wVar 5) (wC (.int 1))) wNil))) (wName 7))
  (t7_law K Z))
def t5_law (K : PySem.W.Frag) (Z : CT) : SW := (wSq (wAsg (wMkI Z.C_Web 2 (fs_Web__init__ K Z) (wCons (wVar 3) (wCons (wVar 4) wNil))) (wName 6))
  (t6_law K Z))
def t4_law (K : PySem.W.Frag) (Z : CT) : SW := (wSq (wAsg (wCall 1 (fs__law_book K) (wcOwn 1 wcNil)) (wName 5))
  (t5_law K Z))
def t3_law (K : PySem.W.Frag) (Z : CT) : SW := (wSq (wAsg (wCall 5 (fs__law_pipes K) (wcOwn 1 (wcCons (wVar 2) (wcCons (wCall 2 (fs__law_draw K) (wcOwn 1 (wcCons (wC (.int 7)) wcNil))) (wcCons (wC (.int 6)) (wcCons (wC (.bl true)) wcNil)))))) (wName 4))
  (t4_law K Z))
def w_law (K : PySem.W.Frag) (Z : CT) : SW := (wSq (wCallOwn 1 1 (fs__law_source K) (wcCons (wVar 0) wcNil))
  (wSq (wAsg (wOp gAddI (wC (.int 2)) (wCall 2 (fs__law_draw K) (wcOwn 1 (wcCons (wC (.int 10)) wcNil)))) (wName 2))
  (wSq (wAsg (wCall 3 (fs__law_widths K) (wcOwn 1 (wcCons (wVar 2) (wcCons (wC (.bl true)) wcNil)))) (wName 3))
  (t3_law K Z))))
def fs_law (K : PySem.W.Frag) (Z : CT) : FS := fun cs q _ => ∃ (ns : List Int), cs = [.dat (.fl (ns.map D.int))] ∧ ns.length ≤ 1000 ∧ LawF K Z ∧ q (.bl true) cs
theorem firstBad_all {n : Int} : ∀ {ds : List D} {k : Nat}, (∀ d ∈ ds, isPi n d = true) → firstBad n k ds = none
  | [], _, _ => rfl
  | x :: r, k, h => by
    unfold firstBad
    rw [if_pos (h x (by simp))]
    exact firstBad_all fun d hd => h d (by simp [hd])
theorem firstBadP_all {P : D → Bool} : ∀ {ds : List D} {k : Nat}, (∀ d ∈ ds, P d = true) → firstBadP P k ds = none
  | [], _, _ => rfl
  | x :: r, k, h => by
    unfold firstBadP
    rw [if_pos (h x (by simp))]
    exact firstBadP_all fun d hd => h d (by simp [hd])
theorem book_ok {ss ks : List D} (h : BookD ss ks) : badBook (.tup ss) (.tup ks) = none := by
  obtain ⟨⟨s3, sea, s1, s4⟩, hk, k5⟩ := h
  have g1 : isSs (.tup ss) = true := by
    simp only [isSs, isTupOf, Bool.and_eq_true, decide_eq_true_eq, List.all_eq_true]
    exact ⟨⟨⟨by omega, by omega⟩, s3⟩, by omega⟩
  have g2 : isTupOf 0 5 (.tup ks) = true := by
    simp only [isTupOf, Bool.and_eq_true, decide_eq_true_eq]
    omega
  have hk : ∀ d ∈ ks, isKi ss d = true := fun d hd => kindD_ki (hk d hd)
  simp only [badBook, g1, g2, Bool.true_eq_false, if_false, firstBadP_all hk, Option.map_none]
theorem web_ok {us ds : List D} (h : WebD us ds) : badWeb (.tup us) (.tup ds) = none := by
  obtain ⟨u1, u2, u3, hd, d4⟩ := h
  have g1 : isWs (.tup us) = true := by
    simp only [isWs, isTupOf, Bool.and_eq_true, decide_eq_true_eq, List.all_eq_true]
    refine ⟨by omega, fun d hd => ?_⟩
    obtain ⟨i, rfl, i0, i1⟩ := u3 d hd
    simp only [isBetw, Bool.and_eq_true, decide_eq_true_eq]
    omega
  have g2 : isTupOf 0 36 (.tup ds) = true := by
    simp only [isTupOf, Bool.and_eq_true, decide_eq_true_eq]
    omega
  have hd : ∀ d ∈ ds, isPi us.length d = true := fun d h => pipD_pi (hd d h)
  simp only [badWeb, g1, g2, Bool.true_eq_false, if_false, firstBad_all hd, Option.map_none]
theorem tup_okd {ds : List D} (h : ∀ d ∈ ds, OkD K d) : OkD K (.tup ds) := by unfold OkD; exact okDs_of h
theorem pln_okd : ∀ {n : Nat} {d : D}, PlnD n d → OkD K d
  | 0, _, h => h.elim
  | n + 1, d, h => by
    rcases pln_cases h with ⟨i, rfl⟩ | ⟨ds, rfl, _, hd⟩
    · unfold OkD; trivial
    · exact tup_okd fun d m => pln_okd (hd d m)
theorem two_pln {n : Nat} {i j : Int} : PlnD (n + 2) (.tup [.int i, .int j]) := ⟨by simp, fun d hd => by
  have : d = .int i ∨ d = .int j := by simpa using hd
  rcases this with rfl | rfl <;> trivial⟩
theorem steps_pln {n : Nat} {es : List D} (h : StepsD es) : PlnD (n + 3) (.tup es) := ⟨by have := h.2.1; omega, fun d hd => by
  obtain ⟨t, b, rfl, _⟩ := th_shape (h.2.2.1 d hd)
  exact two_pln⟩
theorem pip_pln {n : Nat} {v : Int} {d : D} (h : PipD v d) : PlnD (n + 4) d := by
  obtain ⟨a, b, es, rfl, _, _, _, hs⟩ := h
  refine ⟨by simp, fun d hd => ?_⟩
  have : d = .int a ∨ d = .int b ∨ d = .tup es := by simpa using hd
  rcases this with rfl | rfl | rfl
  · trivial
  · trivial
  · exact steps_pln hs
theorem jo_shape {ss : List D} {d : D} (h : isJo ss d = true) : ∃ a b : Int, d = .tup [.int a, .int b] := by
  unfold isJo at h
  split at h
  · exact ⟨_, _, rfl⟩
  · cases h
theorem kind_pln {n : Nat} {ss : List D} {d : D} (h : KindD ss d) : PlnD (n + 4) d := by
  obtain ⟨es, js, rfl, h1, h2, h3, h4, h5⟩ := h
  refine ⟨by simp, fun d hd => ?_⟩
  have : d = .tup es ∨ d = .tup js := by simpa using hd
  rcases this with rfl | rfl
  · exact steps_pln h1
  · refine ⟨by omega, fun d hd => ?_⟩
    obtain ⟨a, b, rfl⟩ := jo_shape (h4 d hd)
    exact two_pln
theorem WebD.pu {us ps : List D} (h : WebD us ps) {n : Nat} : PlnD (n + 2) (.tup us) := ⟨by have := h.l2; omega, fun d hd => by
  obtain ⟨i, rfl, _⟩ := h.w d hd
  trivial⟩
theorem WebD.pp {us ps : List D} (h : WebD us ps) {n : Nat} : PlnD (n + 5) (.tup ps) := ⟨by have := h.n; omega, fun d hd => pip_pln (h.p d hd)⟩
theorem BookD.pS {us ps : List D} (h : BookD us ps) {n : Nat} : PlnD (n + 3) (.tup us) := ⟨by have := h.s.2.2.2; omega, fun d hd => by
  obtain ⟨w, c, rfl, _⟩ := so_shape (h.s.1 d hd)
  exact two_pln⟩
theorem BookD.pK {us ps : List D} (h : BookD us ps) {n : Nat} : PlnD (n + 5) (.tup ps) := ⟨by have := h.n; omega, fun d hd => kind_pln (h.k d hd)⟩
theorem BookD.short {ss ks : List D} (h : BookD ss ks) : KsShort (.tup ks) := fun d hd => by
  obtain ⟨es, js, rfl, h1, h2, h3, _⟩ := h.k d hd
  show js.length ≤ 900
  omega
theorem eqB_self {n : Nat} {d : D} (h : ShD n d) (hn : n ≤ 60) : eqB d d = true := by
  obtain ⟨p, e, c, dp⟩ := shD_py h
  have e2 : pyD d = p := by unfold pyD; rw [e]; rfl
  unfold eqB
  rw [e2]
  exact SeqAt.eqv_refl _ c
theorem two_pl {n : Nat} {a b : D} (ha : PlnD n a) (hb : PlnD n b) : PlnD (n + 1) (.tup [a, b]) := ⟨by simp, fun d hd => by
  have : d = a ∨ d = b := by simpa using hd
  rcases this with rfl | rfl <;> assumption⟩
theorem eqB_two {n : Nat} {a b c d : D} (ha : PlnD n a) (hb : PlnD n b) (hc : PlnD n c) (hd : PlnD n d) : eqB (.tup [a, b]) (.tup [c, d]) = (eqB a c && eqB b d) := by
  unfold eqB
  rw [py_tup (n := n) (fun x hx => by
    have : x = a ∨ x = b := by simpa using hx
    rcases this with rfl | rfl <;> assumption), py_tup (n := n) (fun x hx => by
    have : x = c ∨ x = d := by simpa using hx
    rcases this with rfl | rfl <;> assumption)]
  simp [PyData.eqv, PyData.eqvAll]
/-- what is drawn, as the frame holds it -/
abbrev FrL (Z : CT) (c0 c2 c8 c9 : Cell) (p : Addr) (c : Cont) (us ps ss ks : List D) : List Cell := [c0, .own p c, c2, .dat (.tup us), .dat (.tup ps), .dat (.tup [.tup ss, .tup ks]), .dat (webI Z (.tup us) (.tup ps)), .dat (bookI Z (.tup ss) (.tup ks)), c8, c9]
theorem alkW {Z : CT} {us ps : List D} {y : D} (hw : WebD us ps) (hy : BltD y) : AlkD Z (webI Z (.tup us) (.tup ps)) y false := .inl ⟨_, _, rfl, hw.pu, hw.pp, .inl ⟨hy, rfl⟩⟩
theorem alkB {Z : CT} {ss ks : List D} {y : D} (hb : BookD ss ks) (hy : BltD y) : AlkD Z (bookI Z (.tup ss) (.tup ks)) y false := .inr ⟨_, _, rfl, hb.pS, hb.pK, .inl ⟨hy, rfl⟩⟩
theorem alkWW {Z : CT} {us ps us' ps' : List D} (hw : WebD us ps) (hw' : WebD us' ps') : AlkD Z (webI Z (.tup us) (.tup ps)) (webI Z (.tup us') (.tup ps')) (eqB (.tup [.tup us', .tup ps']) (.tup [.tup us, .tup ps])) := .inl ⟨_, _, rfl, hw.pu, hw.pp, .inr (.inr ⟨_, _, rfl, hw'.pu, hw'.pp, by
  rw [eqB_two (n := 5) hw'.pu hw'.pp hw.pu hw.pp, eqB_symm (n := 5) hw'.pu hw.pu, eqB_symm (n := 5) hw'.pp hw.pp]⟩)⟩
theorem alkBB {Z : CT} {us ps us' ps' : List D} (hw : BookD us ps) (hw' : BookD us' ps') : AlkD Z (bookI Z (.tup us) (.tup ps)) (bookI Z (.tup us') (.tup ps')) (eqB (.tup [.tup us', .tup ps']) (.tup [.tup us, .tup ps])) := .inr ⟨_, _, rfl, hw.pS, hw.pK, .inr (.inr ⟨_, _, rfl, hw'.pS, hw'.pK, by
  rw [eqB_two (n := 5) hw'.pS hw'.pK hw.pS hw.pK, eqB_symm (n := 5) hw'.pS hw.pS, eqB_symm (n := 5) hw'.pK hw.pK]⟩)⟩
theorem alkWs {Z : CT} {us ps : List D} (hw : WebD us ps) : AlkD Z (webI Z (.tup us) (.tup ps)) (webI Z (.tup us) (.tup ps)) true := by
  have h := alkWW (Z := Z) hw hw
  rwa [eqB_self (n := 6) (pln_sh (two_pl (n := 5) hw.pu hw.pp)) (by decide)] at h
theorem alkBs {Z : CT} {us ps : List D} (hw : BookD us ps) : AlkD Z (bookI Z (.tup us) (.tup ps)) (bookI Z (.tup us) (.tup ps)) true := by
  have h := alkBB (Z := Z) hw hw
  rwa [eqB_self (n := 6) (pln_sh (two_pl (n := 5) hw.pS hw.pK)) (by decide)] at h
theorem t14_law_ok {Z : CT} {c0 c2 c8 c9 : Cell} {p : Addr} {c : Cont} {us ps ss ks : List D} {E : EndsD} (L : LawF K Z) (hw : WebD us ps) (hb : BookD ss ks) (hq : ∀ c c2 c8 c9, E.rt (.bl true) (FrL Z c0 c2 c8 c9 p c us ps ss ks)) :
    t14_law K Z E (FrL Z c0 c2 c8 c9 p c us ps ss ks) := by
  unfold t14_law FrL
  simp only [fs__law_alike, fs__law_same, wAttr, wListRg1, wListRg2, wRngDown, wZipK, gInL, gNotInT, wCatOwn, gIsB, gNotB, D.adr.injEq, Cont.pool.injEq, ixN31, ne_eq, List.map_cons, List.map_nil, wPoolOpen, wPoolClose, wPop0, wPopTo, wListOwn, wRemove, wRaise0, wRaise1, wAugOwn, wEnumL, wTru, wSlA, gCatA, gLtT, gLeT, wFrz, wChain3, wAttr, wMkF, wEnumT, wRevT, wDict0, wDict1, numD3, Nat.reduceAdd, atI0, atI1, atI2, atI3, atI4, ixN51, ixN52, ixN53, List.length_map, wNever, scal, V.int.injEq, V.str.injEq, V.bl.injEq, wSq, wNext, wBreak, wCont, wDrop, wRet, wRetN, wIfS, wAsg, wPar, wLstOwn, wAppend, wSetOwn, wIxOwn, wPeek, wRetOwn, wRetFr, wFor, wB, wNot, wAnd, wOr, wAndV, wOrV, wNotV, wIf, wChain, wNil, wCons, wCB, wTup, wLst, wNoPart, wPart, wSlT, wSlL, wSeq, wRng1, wRng2, wZip, wName, wNilT, wConsT, wTupT, wYes, wNeg, wVar, wC, wOp, wcNil, wcCons, wcOwn, wCall, wCallOwn, slots, cellsOf, OwnArgs, putBack, g2I, g2IC, gLen, gAbs, gGcd, gInt1, gTupleOf, gListOf, gIx, gCatT, gCat, gEq, gNe, gIsN, gNotN, scD, seqD_t, seqD_l, seqD_f, isNonD, List.nodup_cons, List.mem_cons, List.not_mem_nil, or_false, not_false_eq_true, Nat.reduceEqDiff, L3.Keeps, ends, wipeD, List.replicate, List.cons_append, List.nil_append, List.append_nil, List.getElem?_cons_zero, List.getElem?_cons_succ, List.set_cons_zero, List.set_cons_succ, List.getD_cons_zero, List.getD_cons_succ, List.length_cons, List.length_nil, List.nodup_nil, Option.some.injEq, Cell.dat.injEq, Cell.own.injEq, Cont.lst.injEq, D.bl.injEq, D.int.injEq, D.str.injEq, D.tup.injEq, D.lst.injEq, Arg.d.injEq, List.cons.injEq, exists_and_left, exists_and_right, exists_eq_left', exists_eq_left, exists_eq_right, exists_eq_right', exists_eq, exists_eq', and_true, true_and, and_assoc, and_self, exists_const, reduceCtorEq]
  have e1 : eqB (.tup us) (.tup us) = true := eqB_self (pln_sh (hw.pu (n := 4))) (by decide)
  have e2 : eqB (.tup ks) (.tup ks) = true := eqB_self (pln_sh (hb.pK (n := 1))) (by decide)
  refine ⟨L, .inl ⟨_, _, rfl, hw.pu, hw.pp, .inr (.inl ⟨_, _, rfl, hb.pS, hb.pK, rfl⟩)⟩, fun _ => ⟨_, rfl, .tup us, rfl, .inl ⟨hw.pu, hw.pu, fun _ => ⟨_, rfl, .tup ks, rfl, .inl ⟨hb.pK, hb.pK, ?_⟩⟩, fun z => ?_⟩⟩, fun z => z.elim⟩
  · rw [e2]
    exact hq _ _ _ _
  · rw [e1] at z
    cases z
theorem t13_law_ok {Z : CT} {c0 c2 c8 c9 : Cell} {p : Addr} {c : Cont} {us ps ss ks : List D} {E : EndsD} (L : LawF K Z) (hw : WebD us ps) (hb : BookD ss ks) (hq : ∀ c c2 c8 c9, E.rt (.bl true) (FrL Z c0 c2 c8 c9 p c us ps ss ks)) :
    t13_law K Z E (FrL Z c0 c2 c8 c9 p c us ps ss ks) := by
  unfold t13_law l1_law wFor FrL
  simp only [wListRg1, wListRg2, wRngDown, wZipK, gInL, gNotInT, wCatOwn, gIsB, gNotB, D.adr.injEq, Cont.pool.injEq, ixN31, ne_eq, List.map_cons, List.map_nil, wPoolOpen, wPoolClose, wPop0, wPopTo, wListOwn, wRemove, wRaise0, wRaise1, wAugOwn, wEnumL, wTru, wSlA, gCatA, gLtT, gLeT, wFrz, wChain3, wAttr, wMkF, wEnumT, wRevT, wDict0, wDict1, numD3, Nat.reduceAdd, atI0, atI1, atI2, atI3, atI4, ixN51, ixN52, ixN53, List.length_map, wNever, scal, V.int.injEq, V.str.injEq, V.bl.injEq, wSq, wNext, wBreak, wCont, wDrop, wRet, wRetN, wIfS, wAsg, wPar, wLstOwn, wAppend, wSetOwn, wIxOwn, wPeek, wRetOwn, wRetFr, wFor, wB, wNot, wAnd, wOr, wAndV, wOrV, wNotV, wIf, wChain, wNil, wCons, wCB, wTup, wLst, wNoPart, wPart, wSlT, wSlL, wSeq, wRng1, wRng2, wZip, wName, wNilT, wConsT, wTupT, wYes, wNeg, wVar, wC, wOp, wcNil, wcCons, wcOwn, wCall, wCallOwn, slots, cellsOf, OwnArgs, putBack, g2I, g2IC, gLen, gAbs, gGcd, gInt1, gTupleOf, gListOf, gIx, gCatT, gCat, gEq, gNe, gIsN, gNotN, scD, seqD_t, seqD_l, seqD_f, isNonD, List.nodup_cons, List.mem_cons, List.not_mem_nil, or_false, not_false_eq_true, Nat.reduceEqDiff, L3.Keeps, ends, wipeD, List.replicate, List.cons_append, List.nil_append, List.append_nil, List.getElem?_cons_zero, List.getElem?_cons_succ, List.set_cons_zero, List.set_cons_succ, List.getD_cons_zero, List.getD_cons_succ, List.length_cons, List.length_nil, List.nodup_nil, Option.some.injEq, Cell.dat.injEq, Cell.own.injEq, Cont.lst.injEq, D.bl.injEq, D.int.injEq, D.str.injEq, D.tup.injEq, D.lst.injEq, Arg.d.injEq, List.cons.injEq, exists_and_left, exists_and_right, exists_eq_left', exists_eq_left, exists_eq_right, exists_eq_right', exists_eq, exists_eq', and_true, true_and, and_assoc, and_self, exists_const, reduceCtorEq]
  refine ⟨by decide, by decide, by decide, fun _ τ => ∃ c9, τ = FrL Z c0 c2 c8 c9 p c us ps ss ks, ⟨c9, rfl⟩, ?_, ?_⟩
  · rintro i d τ2 hi ⟨c9, rfl⟩
    have hd : BltD d := by
      have hm := List.mem_of_getElem? hi
      simp only [List.mem_cons, List.not_mem_nil, or_false] at hm
      rcases hm with rfl | rfl | rfl | rfl | rfl | rfl | rfl | rfl | rfl | rfl <;> trivial
    simp only [fs__law_alike, wListRg1, wListRg2, wRngDown, wZipK, gInL, gNotInT, wCatOwn, gIsB, gNotB, D.adr.injEq, Cont.pool.injEq, ixN31, ne_eq, List.map_cons, List.map_nil, wPoolOpen, wPoolClose, wPop0, wPopTo, wListOwn, wRemove, wRaise0, wRaise1, wAugOwn, wEnumL, wTru, wSlA, gCatA, gLtT, gLeT, wFrz, wChain3, wAttr, wMkF, wEnumT, wRevT, wDict0, wDict1, numD3, Nat.reduceAdd, atI0, atI1, atI2, atI3, atI4, ixN51, ixN52, ixN53, List.length_map, wNever, scal, V.int.injEq, V.str.injEq, V.bl.injEq, wSq, wNext, wBreak, wCont, wDrop, wRet, wRetN, wIfS, wAsg, wPar, wLstOwn, wAppend, wSetOwn, wIxOwn, wPeek, wRetOwn, wRetFr, wFor, wB, wNot, wAnd, wOr, wAndV, wOrV, wNotV, wIf, wChain, wNil, wCons, wCB, wTup, wLst, wNoPart, wPart, wSlT, wSlL, wSeq, wRng1, wRng2, wZip, wName, wNilT, wConsT, wTupT, wYes, wNeg, wVar, wC, wOp, wcNil, wcCons, wcOwn, wCall, wCallOwn, slots, cellsOf, OwnArgs, putBack, g2I, g2IC, gLen, gAbs, gGcd, gInt1, gTupleOf, gListOf, gIx, gCatT, gCat, gEq, gNe, gIsN, gNotN, scD, seqD_t, seqD_l, seqD_f, isNonD, List.nodup_cons, List.mem_cons, List.not_mem_nil, or_false, not_false_eq_true, Nat.reduceEqDiff, L3.Keeps, ends, wipeD, List.replicate, List.cons_append, List.nil_append, List.append_nil, List.getElem?_cons_zero, List.getElem?_cons_succ, List.set_cons_zero, List.set_cons_succ, List.getD_cons_zero, List.getD_cons_succ, List.length_cons, List.length_nil, List.nodup_nil, Option.some.injEq, Cell.dat.injEq, Cell.own.injEq, Cont.lst.injEq, D.bl.injEq, D.int.injEq, D.str.injEq, D.tup.injEq, D.lst.injEq, Arg.d.injEq, List.cons.injEq, exists_and_left, exists_and_right, exists_eq_left', exists_eq_left, exists_eq_right, exists_eq_right', exists_eq, exists_eq', and_true, true_and, and_assoc, and_self, exists_const, reduceCtorEq]
    exact ⟨L, alkW hw hd, fun _ => ⟨L, alkB hb hd, fun z => by simp at z, fun _ => True.intro⟩, fun z => by simp at z⟩
  · rintro τ2 ⟨c9, rfl⟩
    exact t14_law_ok L hw hb hq
theorem t12_law_ok {Z : CT} {c0 c2 c9 : Cell} {p : Addr} {c : Cont} {us ps ss ks ss' ks' : List D} {E : EndsD} (L : LawF K Z) (hw : WebD us ps) (hb : BookD ss ks) (hb' : BookD ss' ks') (hq : ∀ c c2 c8 c9, E.rt (.bl true) (FrL Z c0 c2 c8 c9 p c us ps ss ks)) :
    t12_law K Z E (FrL Z c0 c2 (.dat (.tup [.tup ss', .tup ks'])) c9 p c us ps ss ks) := by
  unfold t12_law FrL
  simp only [fs__law_alike, fs__law_same, wMkI, fs_Book__init__, atI0, atI1, wListRg1, wListRg2, wRngDown, wZipK, gInL, gNotInT, wCatOwn, gIsB, gNotB, D.adr.injEq, Cont.pool.injEq, ixN31, ne_eq, List.map_cons, List.map_nil, wPoolOpen, wPoolClose, wPop0, wPopTo, wListOwn, wRemove, wRaise0, wRaise1, wAugOwn, wEnumL, wTru, wSlA, gCatA, gLtT, gLeT, wFrz, wChain3, wAttr, wMkF, wEnumT, wRevT, wDict0, wDict1, numD3, Nat.reduceAdd, atI0, atI1, atI2, atI3, atI4, ixN51, ixN52, ixN53, List.length_map, wNever, scal, V.int.injEq, V.str.injEq, V.bl.injEq, wSq, wNext, wBreak, wCont, wDrop, wRet, wRetN, wIfS, wAsg, wPar, wLstOwn, wAppend, wSetOwn, wIxOwn, wPeek, wRetOwn, wRetFr, wFor, wB, wNot, wAnd, wOr, wAndV, wOrV, wNotV, wIf, wChain, wNil, wCons, wCB, wTup, wLst, wNoPart, wPart, wSlT, wSlL, wSeq, wRng1, wRng2, wZip, wName, wNilT, wConsT, wTupT, wYes, wNeg, wVar, wC, wOp, wcNil, wcCons, wcOwn, wCall, wCallOwn, slots, cellsOf, OwnArgs, putBack, g2I, g2IC, gLen, gAbs, gGcd, gInt1, gTupleOf, gListOf, gIx, gCatT, gCat, gEq, gNe, gIsN, gNotN, scD, seqD_t, seqD_l, seqD_f, isNonD, List.nodup_cons, List.mem_cons, List.not_mem_nil, or_false, not_false_eq_true, Nat.reduceEqDiff, L3.Keeps, ends, wipeD, List.replicate, List.cons_append, List.nil_append, List.append_nil, List.getElem?_cons_zero, List.getElem?_cons_succ, List.set_cons_zero, List.set_cons_succ, List.getD_cons_zero, List.getD_cons_succ, List.length_cons, List.length_nil, List.nodup_nil, Option.some.injEq, Cell.dat.injEq, Cell.own.injEq, Cont.lst.injEq, D.bl.injEq, D.int.injEq, D.str.injEq, D.tup.injEq, D.lst.injEq, Arg.d.injEq, List.cons.injEq, exists_and_left, exists_and_right, exists_eq_left', exists_eq_left, exists_eq_right, exists_eq_right', exists_eq, exists_eq', and_true, true_and, and_assoc, and_self, exists_const, reduceCtorEq]
  refine fun x dx => ⟨dx, rfl, pln_okd (n := 5) hb'.pS, pln_okd (n := 5) hb'.pK, hb'.short, fun part z => ?_, fun _ => ⟨_, rfl, .inl ⟨two_pl (n := 5) hb'.pS hb'.pK, two_pl (n := 5) hb.pS hb.pK, L, alkBB hb hb', fun z => by simp at z, fun _ => t13_law_ok L hw hb hq⟩⟩⟩
  rw [book_ok hb'] at z
  cases z
theorem cut12 {us : List D} (h : us.length ≤ 12) : cutDs us none (some (12 : Int)) = us := by
  have : cutDs us none (some ((12 : Nat) : Int)) = us.take 12 := cut_take
  rw [show (12 : Int) = ((12 : Nat) : Int) from rfl, this]
  exact List.take_of_length_le h
theorem t10_law_ok {Z : CT} {c0 c2 c9 : Cell} {p : Addr} {c : Cont} {us ps ss ks us' ps' : List D} {E : EndsD} (L : LawF K Z) (hc : SrcC c) (hw : WebD us ps) (hb : BookD ss ks) (hw' : WebD us' ps') (hq : ∀ c c2 c8 c9, E.rt (.bl true) (FrL Z c0 c2 c8 c9 p c us ps ss ks)) :
    t10_law K Z E (FrL Z c0 c2 (.dat (.tup [.tup us', .tup ps'])) c9 p c us ps ss ks) := by
  unfold t10_law FrL
  simp only [fs__law_alike, fs__law_same, wMkI, fs_Web__init__, atI0, atI1, wListRg1, wListRg2, wRngDown, wZipK, gInL, gNotInT, wCatOwn, gIsB, gNotB, D.adr.injEq, Cont.pool.injEq, ixN31, ne_eq, List.map_cons, List.map_nil, wPoolOpen, wPoolClose, wPop0, wPopTo, wListOwn, wRemove, wRaise0, wRaise1, wAugOwn, wEnumL, wTru, wSlA, gCatA, gLtT, gLeT, wFrz, wChain3, wAttr, wMkF, wEnumT, wRevT, wDict0, wDict1, numD3, Nat.reduceAdd, atI0, atI1, atI2, atI3, atI4, ixN51, ixN52, ixN53, List.length_map, wNever, scal, V.int.injEq, V.str.injEq, V.bl.injEq, wSq, wNext, wBreak, wCont, wDrop, wRet, wRetN, wIfS, wAsg, wPar, wLstOwn, wAppend, wSetOwn, wIxOwn, wPeek, wRetOwn, wRetFr, wFor, wB, wNot, wAnd, wOr, wAndV, wOrV, wNotV, wIf, wChain, wNil, wCons, wCB, wTup, wLst, wNoPart, wPart, wSlT, wSlL, wSeq, wRng1, wRng2, wZip, wName, wNilT, wConsT, wTupT, wYes, wNeg, wVar, wC, wOp, wcNil, wcCons, wcOwn, wCall, wCallOwn, slots, cellsOf, OwnArgs, putBack, g2I, g2IC, gLen, gAbs, gGcd, gInt1, gTupleOf, gListOf, gIx, gCatT, gCat, gEq, gNe, gIsN, gNotN, scD, seqD_t, seqD_l, seqD_f, isNonD, List.nodup_cons, List.mem_cons, List.not_mem_nil, or_false, not_false_eq_true, Nat.reduceEqDiff, L3.Keeps, ends, wipeD, List.replicate, List.cons_append, List.nil_append, List.append_nil, List.getElem?_cons_zero, List.getElem?_cons_succ, List.set_cons_zero, List.set_cons_succ, List.getD_cons_zero, List.getD_cons_succ, List.length_cons, List.length_nil, List.nodup_nil, Option.some.injEq, Cell.dat.injEq, Cell.own.injEq, Cont.lst.injEq, D.bl.injEq, D.int.injEq, D.str.injEq, D.tup.injEq, D.lst.injEq, Arg.d.injEq, List.cons.injEq, exists_and_left, exists_and_right, exists_eq_left', exists_eq_left, exists_eq_right, exists_eq_right', exists_eq, exists_eq', and_true, true_and, and_assoc, and_self, exists_const, reduceCtorEq]
  rw [cut12 hw'.l2]
  refine fun x dx => ⟨dx, rfl, pln_okd (n := 5) hw'.pu, pln_okd (n := 5) hw'.pp, fun part z => ?_, fun _ => ⟨_, rfl, ?_⟩⟩
  · rw [web_ok hw'] at z
    cases z
  unfold t11_law
  simp only [fs__law_other_book, atI0, atI1, wListRg1, wListRg2, wRngDown, wZipK, gInL, gNotInT, wCatOwn, gIsB, gNotB, D.adr.injEq, Cont.pool.injEq, ixN31, ne_eq, List.map_cons, List.map_nil, wPoolOpen, wPoolClose, wPop0, wPopTo, wListOwn, wRemove, wRaise0, wRaise1, wAugOwn, wEnumL, wTru, wSlA, gCatA, gLtT, gLeT, wFrz, wChain3, wAttr, wMkF, wEnumT, wRevT, wDict0, wDict1, numD3, Nat.reduceAdd, atI0, atI1, atI2, atI3, atI4, ixN51, ixN52, ixN53, List.length_map, wNever, scal, V.int.injEq, V.str.injEq, V.bl.injEq, wSq, wNext, wBreak, wCont, wDrop, wRet, wRetN, wIfS, wAsg, wPar, wLstOwn, wAppend, wSetOwn, wIxOwn, wPeek, wRetOwn, wRetFr, wFor, wB, wNot, wAnd, wOr, wAndV, wOrV, wNotV, wIf, wChain, wNil, wCons, wCB, wTup, wLst, wNoPart, wPart, wSlT, wSlL, wSeq, wRng1, wRng2, wZip, wName, wNilT, wConsT, wTupT, wYes, wNeg, wVar, wC, wOp, wcNil, wcCons, wcOwn, wCall, wCallOwn, slots, cellsOf, OwnArgs, putBack, g2I, g2IC, gLen, gAbs, gGcd, gInt1, gTupleOf, gListOf, gIx, gCatT, gCat, gEq, gNe, gIsN, gNotN, scD, seqD_t, seqD_l, seqD_f, isNonD, List.nodup_cons, List.mem_cons, List.not_mem_nil, or_false, not_false_eq_true, Nat.reduceEqDiff, L3.Keeps, ends, wipeD, List.replicate, List.cons_append, List.nil_append, List.append_nil, List.getElem?_cons_zero, List.getElem?_cons_succ, List.set_cons_zero, List.set_cons_succ, List.getD_cons_zero, List.getD_cons_succ, List.length_cons, List.length_nil, List.nodup_nil, Option.some.injEq, Cell.dat.injEq, Cell.own.injEq, Cont.lst.injEq, D.bl.injEq, D.int.injEq, D.str.injEq, D.tup.injEq, D.lst.injEq, Arg.d.injEq, List.cons.injEq, exists_and_left, exists_and_right, exists_eq_left', exists_eq_left, exists_eq_right, exists_eq_right', exists_eq, exists_eq', and_true, true_and, and_assoc, and_self, exists_const, reduceCtorEq]
  exact ⟨by decide, by decide, .inl ⟨two_pl (n := 5) hw'.pu hw'.pp, two_pl (n := 5) hw.pu hw.pp, L, alkWW hw hw', fun z => by simp at z, fun _ => ⟨hc, hb, fun c' ss' ks' _ hb' => t12_law_ok L hw hb hb' hq⟩⟩⟩
theorem t8_law_ok {Z : CT} {c0 c2 c8 c9 : Cell} {p : Addr} {c : Cont} {us ps ss ks : List D} {E : EndsD} (L : LawF K Z) (hc : SrcC c) (hw : WebD us ps) (l2 : 2 ≤ us.length) (l11 : us.length ≤ 11) (l10 : ps.length ≤ 10) (hb : BookD ss ks) (hq : ∀ c c2 c8 c9, E.rt (.bl true) (FrL Z c0 c2 c8 c9 p c us ps ss ks)) :
    t8_law K Z E (FrL Z c0 c2 c8 c9 p c us ps ss ks) := by
  unfold t8_law FrL
  simp only [fs__law_alike, wMkI, fs_Book__init__, atI0, atI1, seqD_t, seqD_l, wListRg1, wListRg2, wRngDown, wZipK, gInL, gNotInT, wCatOwn, gIsB, gNotB, D.adr.injEq, Cont.pool.injEq, ixN31, ne_eq, List.map_cons, List.map_nil, wPoolOpen, wPoolClose, wPop0, wPopTo, wListOwn, wRemove, wRaise0, wRaise1, wAugOwn, wEnumL, wTru, wSlA, gCatA, gLtT, gLeT, wFrz, wChain3, wAttr, wMkF, wEnumT, wRevT, wDict0, wDict1, numD3, Nat.reduceAdd, atI0, atI1, atI2, atI3, atI4, ixN51, ixN52, ixN53, List.length_map, wNever, scal, V.int.injEq, V.str.injEq, V.bl.injEq, wSq, wNext, wBreak, wCont, wDrop, wRet, wRetN, wIfS, wAsg, wPar, wLstOwn, wAppend, wSetOwn, wIxOwn, wPeek, wRetOwn, wRetFr, wFor, wB, wNot, wAnd, wOr, wAndV, wOrV, wNotV, wIf, wChain, wNil, wCons, wCB, wTup, wLst, wNoPart, wPart, wSlT, wSlL, wSeq, wRng1, wRng2, wZip, wName, wNilT, wConsT, wTupT, wYes, wNeg, wVar, wC, wOp, wcNil, wcCons, wcOwn, wCall, wCallOwn, slots, cellsOf, OwnArgs, putBack, g2I, g2IC, gLen, gAbs, gGcd, gInt1, gTupleOf, gListOf, gIx, gCatT, gCat, gEq, gNe, gIsN, gNotN, scD, seqD_t, seqD_l, seqD_f, isNonD, List.nodup_cons, List.mem_cons, List.not_mem_nil, or_false, not_false_eq_true, Nat.reduceEqDiff, L3.Keeps, ends, wipeD, List.replicate, List.cons_append, List.nil_append, List.append_nil, List.getElem?_cons_zero, List.getElem?_cons_succ, List.set_cons_zero, List.set_cons_succ, List.getD_cons_zero, List.getD_cons_succ, List.length_cons, List.length_nil, List.nodup_nil, Option.some.injEq, Cell.dat.injEq, Cell.own.injEq, Cont.lst.injEq, D.bl.injEq, D.int.injEq, D.str.injEq, D.tup.injEq, D.lst.injEq, Arg.d.injEq, List.cons.injEq, exists_and_left, exists_and_right, exists_eq_left', exists_eq_left, exists_eq_right, exists_eq_right', exists_eq, exists_eq', and_true, true_and, and_assoc, and_self, exists_const, reduceCtorEq]
  unfold t9_law
  simp only [fs__law_other_web, wListRg1, wListRg2, wRngDown, wZipK, gInL, gNotInT, wCatOwn, gIsB, gNotB, D.adr.injEq, Cont.pool.injEq, ixN31, ne_eq, List.map_cons, List.map_nil, wPoolOpen, wPoolClose, wPop0, wPopTo, wListOwn, wRemove, wRaise0, wRaise1, wAugOwn, wEnumL, wTru, wSlA, gCatA, gLtT, gLeT, wFrz, wChain3, wAttr, wMkF, wEnumT, wRevT, wDict0, wDict1, numD3, Nat.reduceAdd, atI0, atI1, atI2, atI3, atI4, ixN51, ixN52, ixN53, List.length_map, wNever, scal, V.int.injEq, V.str.injEq, V.bl.injEq, wSq, wNext, wBreak, wCont, wDrop, wRet, wRetN, wIfS, wAsg, wPar, wLstOwn, wAppend, wSetOwn, wIxOwn, wPeek, wRetOwn, wRetFr, wFor, wB, wNot, wAnd, wOr, wAndV, wOrV, wNotV, wIf, wChain, wNil, wCons, wCB, wTup, wLst, wNoPart, wPart, wSlT, wSlL, wSeq, wRng1, wRng2, wZip, wName, wNilT, wConsT, wTupT, wYes, wNeg, wVar, wC, wOp, wcNil, wcCons, wcOwn, wCall, wCallOwn, slots, cellsOf, OwnArgs, putBack, g2I, g2IC, gLen, gAbs, gGcd, gInt1, gTupleOf, gListOf, gIx, gCatT, gCat, gEq, gNe, gIsN, gNotN, scD, seqD_t, seqD_l, seqD_f, isNonD, List.nodup_cons, List.mem_cons, List.not_mem_nil, or_false, not_false_eq_true, Nat.reduceEqDiff, L3.Keeps, ends, wipeD, List.replicate, List.cons_append, List.nil_append, List.append_nil, List.getElem?_cons_zero, List.getElem?_cons_succ, List.set_cons_zero, List.set_cons_succ, List.getD_cons_zero, List.getD_cons_succ, List.length_cons, List.length_nil, List.nodup_nil, Option.some.injEq, Cell.dat.injEq, Cell.own.injEq, Cont.lst.injEq, D.bl.injEq, D.int.injEq, D.str.injEq, D.tup.injEq, D.lst.injEq, Arg.d.injEq, List.cons.injEq, exists_and_left, exists_and_right, exists_eq_left', exists_eq_left, exists_eq_right, exists_eq_right', exists_eq, exists_eq', and_true, true_and, and_assoc, and_self, exists_const, reduceCtorEq]
  refine fun x dx => ⟨dx, rfl, pln_okd (n := 5) hb.pS, pln_okd (n := 5) hb.pK, hb.short, fun part z => ?_, fun _ => ⟨_, rfl, L, alkBs hb, fun z => by simp at z, fun _ => ⟨hc, hw, l11, l2, l10, fun c' us' ps' hc' hw' => t10_law_ok L hc' hw hb hw' hq⟩⟩⟩
  rw [book_ok hb] at z
  cases z
theorem t3_law_ok {Z : CT} {c0 c4 c5 c6 c7 c8 c9 : Cell} {p : Addr} {c : Cont} {v : Int} {us : List D} {E : EndsD} (L : LawF K Z) (hc : SrcC c) (hl : (us.length : Int) = v) (v2 : 2 ≤ v) (v11 : v ≤ 11) (hu : ∀ d ∈ us, WidD d) (hq : ∀ c c2 ps ss ks c8 c9, E.rt (.bl true) (FrL Z c0 c2 c8 c9 p c us ps ss ks)) :
    t3_law K Z E [c0, .own p c, .dat (.int v), .dat (.tup us), c4, c5, c6, c7, c8, c9] := by
  unfold t3_law t4_law t5_law t6_law t7_law
  simp only [fs__law_pipes, fs__law_draw, fs__law_book, fs__law_alike, wMkI, fs_Web__init__, fs_Book__init__, atI0, atI1, seqD_t, seqD_l, wListRg1, wListRg2, wRngDown, wZipK, gInL, gNotInT, wCatOwn, gIsB, gNotB, D.adr.injEq, Cont.pool.injEq, ixN31, ne_eq, List.map_cons, List.map_nil, wPoolOpen, wPoolClose, wPop0, wPopTo, wListOwn, wRemove, wRaise0, wRaise1, wAugOwn, wEnumL, wTru, wSlA, gCatA, gLtT, gLeT, wFrz, wChain3, wAttr, wMkF, wEnumT, wRevT, wDict0, wDict1, numD3, Nat.reduceAdd, atI0, atI1, atI2, atI3, atI4, ixN51, ixN52, ixN53, List.length_map, wNever, scal, V.int.injEq, V.str.injEq, V.bl.injEq, wSq, wNext, wBreak, wCont, wDrop, wRet, wRetN, wIfS, wAsg, wPar, wLstOwn, wAppend, wSetOwn, wIxOwn, wPeek, wRetOwn, wRetFr, wFor, wB, wNot, wAnd, wOr, wAndV, wOrV, wNotV, wIf, wChain, wNil, wCons, wCB, wTup, wLst, wNoPart, wPart, wSlT, wSlL, wSeq, wRng1, wRng2, wZip, wName, wNilT, wConsT, wTupT, wYes, wNeg, wVar, wC, wOp, wcNil, wcCons, wcOwn, wCall, wCallOwn, slots, cellsOf, OwnArgs, putBack, g2I, g2IC, gLen, gAbs, gGcd, gInt1, gTupleOf, gListOf, gIx, gCatT, gCat, gEq, gNe, gIsN, gNotN, scD, seqD_t, seqD_l, seqD_f, isNonD, List.nodup_cons, List.mem_cons, List.not_mem_nil, or_false, not_false_eq_true, Nat.reduceEqDiff, L3.Keeps, ends, wipeD, List.replicate, List.cons_append, List.nil_append, List.append_nil, List.getElem?_cons_zero, List.getElem?_cons_succ, List.set_cons_zero, List.set_cons_succ, List.getD_cons_zero, List.getD_cons_succ, List.length_cons, List.length_nil, List.nodup_nil, Option.some.injEq, Cell.dat.injEq, Cell.own.injEq, Cont.lst.injEq, D.bl.injEq, D.int.injEq, D.str.injEq, D.tup.injEq, D.lst.injEq, Arg.d.injEq, List.cons.injEq, exists_and_left, exists_and_right, exists_eq_left', exists_eq_left, exists_eq_right, exists_eq_right', exists_eq, exists_eq', and_true, true_and, and_assoc, and_self, exists_const, reduceCtorEq]
  refine ⟨hc, by decide, by decide, fun c1 n hc1 n0 n7 => ⟨hc1, by omega, n0, by omega, by decide, by decide, fun c2 ps hc2 lp hp => ⟨hc2, fun c3 ss ks hc3 hs hk5 hk => ?_⟩⟩⟩
  have hw : WebD us ps := ⟨by omega, by omega, hu, by rw [hl]; exact hp, by omega⟩
  have hb : BookD ss ks := ⟨hs, hk, hk5⟩
  refine fun x dx => ⟨dx, rfl, pln_okd (n := 5) hw.pu, pln_okd (n := 5) hw.pp, fun part z => ?_, fun _ => ⟨_, rfl, fun x dx => ⟨dx, rfl, pln_okd (n := 5) hb.pS, pln_okd (n := 5) hb.pK, hb.short, fun part z => ?_, fun _ => ⟨_, rfl, fun x dx => ⟨dx, rfl, pln_okd (n := 5) hw.pu, pln_okd (n := 5) hw.pp, fun part z => ?_, fun _ => ⟨_, rfl, L, alkWs hw, fun z => by simp at z, fun _ => t8_law_ok L hc3 hw (by omega) (by omega) (by omega) hb fun _ _ _ _ => hq _ _ _ _ _ _ _⟩⟩⟩⟩⟩⟩
  · rw [web_ok hw] at z
    cases z
  · rw [book_ok hb] at z
    cases z
  · rw [web_ok hw] at z
    cases z
theorem pure_law {Z : CT} : PureD 1 9 (fs_law K Z) (w_law K Z) := by
  rintro cs q e - ⟨ns, rfl, hl, L, hq⟩
  simp only [w_law, fs__law_source, fs__law_draw, fs__law_widths, wListRg1, wListRg2, wRngDown, wZipK, gInL, gNotInT, wCatOwn, gIsB, gNotB, D.adr.injEq, Cont.pool.injEq, ixN31, ne_eq, List.map_cons, List.map_nil, wPoolOpen, wPoolClose, wPop0, wPopTo, wListOwn, wRemove, wRaise0, wRaise1, wAugOwn, wEnumL, wTru, wSlA, gCatA, gLtT, gLeT, wFrz, wChain3, wAttr, wMkF, wEnumT, wRevT, wDict0, wDict1, numD3, Nat.reduceAdd, atI0, atI1, atI2, atI3, atI4, ixN51, ixN52, ixN53, List.length_map, wNever, scal, V.int.injEq, V.str.injEq, V.bl.injEq, wSq, wNext, wBreak, wCont, wDrop, wRet, wRetN, wIfS, wAsg, wPar, wLstOwn, wAppend, wSetOwn, wIxOwn, wPeek, wRetOwn, wRetFr, wFor, wB, wNot, wAnd, wOr, wAndV, wOrV, wNotV, wIf, wChain, wNil, wCons, wCB, wTup, wLst, wNoPart, wPart, wSlT, wSlL, wSeq, wRng1, wRng2, wZip, wName, wNilT, wConsT, wTupT, wYes, wNeg, wVar, wC, wOp, wcNil, wcCons, wcOwn, wCall, wCallOwn, slots, cellsOf, OwnArgs, putBack, g2I, g2IC, gLen, gAbs, gGcd, gInt1, gTupleOf, gListOf, gIx, gCatT, gCat, gEq, gNe, gIsN, gNotN, scD, seqD_t, seqD_l, seqD_f, isNonD, List.nodup_cons, List.mem_cons, List.not_mem_nil, or_false, not_false_eq_true, Nat.reduceEqDiff, L3.Keeps, ends, wipeD, List.replicate, List.cons_append, List.nil_append, List.append_nil, List.getElem?_cons_zero, List.getElem?_cons_succ, List.set_cons_zero, List.set_cons_succ, List.getD_cons_zero, List.getD_cons_succ, List.length_cons, List.length_nil, List.nodup_nil, Option.some.injEq, Cell.dat.injEq, Cell.own.injEq, Cont.lst.injEq, D.bl.injEq, D.int.injEq, D.str.injEq, D.tup.injEq, D.lst.injEq, Arg.d.injEq, List.cons.injEq, exists_and_left, exists_and_right, exists_eq_left', exists_eq_left, exists_eq_right, exists_eq_right', exists_eq, exists_eq', and_true, true_and, and_assoc, and_self, exists_const, reduceCtorEq]
  refine ⟨ns, rfl, hl, fun f p => ⟨⟨ns, 0, 0, 0, f, rfl, by decide, by decide⟩, by decide, by decide, fun c1 n hc1 n0 n10 => ⟨hc1, by omega, by omega, fun c2 us hc2 hlu hu _ => t3_law_ok L hc2 hlu (by omega) (by omega) hu fun c c2 ps ss ks c8 c9 => ?_⟩⟩⟩
  simp only [FrL, wListRg1, wListRg2, wRngDown, wZipK, gInL, gNotInT, wCatOwn, gIsB, gNotB, D.adr.injEq, Cont.pool.injEq, ixN31, ne_eq, List.map_cons, List.map_nil, wPoolOpen, wPoolClose, wPop0, wPopTo, wListOwn, wRemove, wRaise0, wRaise1, wAugOwn, wEnumL, wTru, wSlA, gCatA, gLtT, gLeT, wFrz, wChain3, wAttr, wMkF, wEnumT, wRevT, wDict0, wDict1, numD3, Nat.reduceAdd, atI0, atI1, atI2, atI3, atI4, ixN51, ixN52, ixN53, List.length_map, wNever, scal, V.int.injEq, V.str.injEq, V.bl.injEq, wSq, wNext, wBreak, wCont, wDrop, wRet, wRetN, wIfS, wAsg, wPar, wLstOwn, wAppend, wSetOwn, wIxOwn, wPeek, wRetOwn, wRetFr, wFor, wB, wNot, wAnd, wOr, wAndV, wOrV, wNotV, wIf, wChain, wNil, wCons, wCB, wTup, wLst, wNoPart, wPart, wSlT, wSlL, wSeq, wRng1, wRng2, wZip, wName, wNilT, wConsT, wTupT, wYes, wNeg, wVar, wC, wOp, wcNil, wcCons, wcOwn, wCall, wCallOwn, slots, cellsOf, OwnArgs, putBack, g2I, g2IC, gLen, gAbs, gGcd, gInt1, gTupleOf, gListOf, gIx, gCatT, gCat, gEq, gNe, gIsN, gNotN, scD, seqD_t, seqD_l, seqD_f, isNonD, List.nodup_cons, List.mem_cons, List.not_mem_nil, or_false, not_false_eq_true, Nat.reduceEqDiff, L3.Keeps, ends, wipeD, List.replicate, List.cons_append, List.nil_append, List.append_nil, List.getElem?_cons_zero, List.getElem?_cons_succ, List.set_cons_zero, List.set_cons_succ, List.getD_cons_zero, List.getD_cons_succ, List.length_cons, List.length_nil, List.nodup_nil, Option.some.injEq, Cell.dat.injEq, Cell.own.injEq, Cont.lst.injEq, D.bl.injEq, D.int.injEq, D.str.injEq, D.tup.injEq, D.lst.injEq, Arg.d.injEq, List.cons.injEq, exists_and_left, exists_and_right, exists_eq_left', exists_eq_left, exists_eq_right, exists_eq_right', exists_eq, exists_eq', and_true, true_and, and_assoc, and_self, exists_const, reduceCtorEq]
  exact hq
theorem kb_of {K : PySem.W.Frag} {C : Addr} (h1 : PySem.W.isClsIn K C = true) (h2 : PySem.W.typeIn K (.ref C) = some (.type "type")) : ∀ T ∈ kindNames, PySem.W.kitOne K (.type T) (.ref C) = some false := fun T h => by
  have h1' : (PySem.W.clsIn K C).isSome = true := h1
  have s : PySem.W.subIn K (.type T) (.ref C) = some false := sub_bi h
  unfold PySem.W.kitOne PySem.W.kitCls
  simp [h1', h2, s]
theorem ns_of {K : PySem.W.Frag} {C : Addr} (h1 : PySem.W.subIn K (.ref C) (.type "NoneType") = some false) (h2 : PySem.W.subIn K (.ref C) (.type "bool") = some false) (h3 : PySem.W.subIn K (.ref C) (.type "int") = some false) (h4 : PySem.W.subIn K (.ref C) (.type "str") = some false) (h5 : PySem.W.subIn K (.ref C) (.type "tuple") = some false) (h6 : PySem.W.subIn K (.ref C) (.type "list") = some false) (h7 : PySem.W.subIn K (.ref C) (.type "dict") = some false) : NoSub K C := by
  intro T h
  simp only [kindNames, List.mem_cons, List.not_mem_nil, or_false] at h
  rcases h with rfl | rfl | rfl | rfl | rfl | rfl | rfl <;> assumption
theorem ok_law (T : Txt K mg) {f : Addr} {kV doc pm cdv ct oc : Value} {an od : Option Addr} {osl : Array (Option Value)} (lk : K.lookup f = some ⟨oc, od, .func (PySem.W.fnOf "law" "law" (defArgs s_law) (defBody s_law) (defScope s_law) .none kV doc pm an cdv ct), osl⟩) (hcd : PySem.W.codeIn K cdv "law" = true) :
    FnOk P w K mg base (L2.CX P w) 8 f (PySem.W.fnOf "law" "law" (defArgs s_law) (defBody s_law) (defScope s_law) .none kV doc pm an cdv ct) ["script"] (spOf K 1 (fs_law K T.Z)) := by
  refine def_okC lk hcd sc_law (wb := w_law K T.Z) pure_law ?_
  intro A outer s H E hr tk
  exact ⟨_, (pss_cons (ps_set (i := 1) sc_law.nd rfl (by first | exact Or.inl rfl | exact Or.inr rfl) (pe_callS (ok__law_source T) (hr.mono (by decide)) rfl T.g__law_source T.k__law_source T.b__law_source (fun σ => passAt tk σ) (pa_cons (pv 0) pa_nil)))
      (pss_cons (ps_set (i := 2) sc_law.nd rfl (by first | exact Or.inl rfl | exact Or.inr rfl) (pe_op op_add pe_int (pe_callS (ok__law_draw T) (hr.mono (by decide)) rfl T.g__law_draw T.k__law_draw T.b__law_draw (fun σ => passAt tk σ) (pa_cons (pv 1) (pa_cons pe_int pa_nil)))))
      (pss_cons (ps_set (i := 3) sc_law.nd rfl (by first | exact Or.inl rfl | exact Or.inr rfl) (pe_callS (ok__law_widths T) (hr.mono (by decide)) rfl T.g__law_widths T.k__law_widths T.b__law_widths (fun σ => passAt tk σ) (pa_cons (pv 1) (pa_cons (pv 2) (pa_cons pe_bl pa_nil)))))
      (pss_cons (ps_set (i := 4) sc_law.nd rfl (by first | exact Or.inl rfl | exact Or.inr rfl) (pe_callS (ok__law_pipes T) (hr.mono (by decide)) rfl T.g__law_pipes T.k__law_pipes T.b__law_pipes (fun σ => passAt tk σ) (pa_cons (pv 1) (pa_cons (pv 2) (pa_cons (pe_callS (ok__law_draw T) (hr.mono (by decide)) rfl T.g__law_draw T.k__law_draw T.b__law_draw (fun σ => passAt tk σ) (pa_cons (pv 1) (pa_cons pe_int pa_nil))) (pa_cons pe_int (pa_cons pe_bl pa_nil)))))))
      (pss_cons (ps_set (i := 5) sc_law.nd rfl (by first | exact Or.inl rfl | exact Or.inr rfl) (pe_callS (ok__law_book T) (hr.mono (by decide)) rfl T.g__law_book T.k__law_book T.b__law_book (fun σ => passAt tk σ) (pa_cons (pv 1) pa_nil)))
      (pss_cons (ps_set (i := 6) sc_law.nd rfl (by first | exact Or.inl rfl | exact Or.inr rfl) (pe_make T.cm_Web (ok_Web__init__ T) (hr.mono (by decide)) rfl T.gc_Web T.b_Web__init__ .nil (passF tk) (pa_cons (pv 3) (pa_cons (pv 4) pa_nil))))
      (pss_cons (ps_set (i := 7) sc_law.nd rfl (by first | exact Or.inl rfl | exact Or.inr rfl) (pe_make T.cm_Book (ok_Book__init__ T) (hr.mono (by decide)) rfl T.gc_Book T.b_Book__init__ .nil (passF tk) (pa_cons (pe_ix ix_seq (pv 5) pe_int (fun _ _ => rfl)) (pa_cons (pe_ix ix_seq (pv 5) pe_int (fun _ _ => rfl)) pa_nil))))
      (pss_cons (ps_if (pt_not (pt_val (pe_callS (ok__law_alike T) (hr.mono (by decide)) rfl T.g__law_alike T.k__law_alike T.b__law_alike (fun σ => passAt tk σ) (pa_cons (pv 6) (pa_cons (pe_make T.cm_Web (ok_Web__init__ T) (hr.mono (by decide)) rfl T.gc_Web T.b_Web__init__ .nil (passF tk) (pa_cons (pe_callTy call_tuple_of (by rfl) T.z_tuple (by decide +kernel) (pa_cons (pe_callTy call_list_of (by rfl) T.z_list (by decide +kernel) (pa_cons (pv 3) pa_nil)) pa_nil)) (pa_cons (pe_callTy call_tuple_of (by rfl) T.z_tuple (by decide +kernel) (pa_cons (pe_callTy call_list_of (by rfl) T.z_list (by decide +kernel) (pa_cons (pv 4) pa_nil)) pa_nil)) pa_nil))) (pa_cons pe_bl pa_nil))))))
        (pss_one (ps_ret pe_bl))
        pss_nil)
      (pss_cons (ps_if (pt_not (pt_val (pe_callS (ok__law_alike T) (hr.mono (by decide)) rfl T.g__law_alike T.k__law_alike T.b__law_alike (fun σ => passAt tk σ) (pa_cons (pv 7) (pa_cons (pe_make T.cm_Book (ok_Book__init__ T) (hr.mono (by decide)) rfl T.gc_Book T.b_Book__init__ .nil (passF tk) (pa_cons (pe_callTy call_tuple_of (by rfl) T.z_tuple (by decide +kernel) (pa_cons (pe_callTy call_list_of (by rfl) T.z_list (by decide +kernel) (pa_cons (pe_ix ix_seq (pv 5) pe_int (fun _ _ => rfl)) pa_nil)) pa_nil)) (pa_cons (pe_callTy call_tuple_of (by rfl) T.z_tuple (by decide +kernel) (pa_cons (pe_callTy call_list_of (by rfl) T.z_list (by decide +kernel) (pa_cons (pe_ix ix_seq (pv 5) pe_int (fun _ _ => rfl)) pa_nil)) pa_nil)) pa_nil))) (pa_cons pe_bl pa_nil))))))
        (pss_one (ps_ret pe_bl))
        pss_nil)
      (pss_cons (ps_set (i := 8) sc_law.nd rfl (by first | exact Or.inl rfl | exact Or.inr rfl) (pe_callS (ok__law_other_web T) (hr.mono (by decide)) rfl T.g__law_other_web T.k__law_other_web T.b__law_other_web (fun σ => passAt tk σ) (pa_cons (pv 1) (pa_cons (pv 3) (pa_cons (pv 4) pa_nil)))))
      (pss_cons (ps_if (pt_not (pt_val (pe_callS (ok__law_alike T) (hr.mono (by decide)) rfl T.g__law_alike T.k__law_alike T.b__law_alike (fun σ => passAt tk σ) (pa_cons (pv 6) (pa_cons (pe_make T.cm_Web (ok_Web__init__ T) (hr.mono (by decide)) rfl T.gc_Web T.b_Web__init__ .nil (passF tk) (pa_cons (pe_slice sl_tupA (pe_ix ix_seq (pv 8) pe_int (fun _ _ => rfl)) po_none (po_some pe_int)) (pa_cons (pe_ix ix_seq (pv 8) pe_int (fun _ _ => rfl)) pa_nil))) (pa_cons (pe_callS (ok__law_same T 6) (hr.mono (by decide)) rfl T.g__law_same T.k__law_same T.b__law_same (fun σ => passAt tk σ) (pa_cons (pe_tup (pa_cons (pe_slice sl_tupA (pe_ix ix_seq (pv 8) pe_int (fun _ _ => rfl)) po_none (po_some pe_int)) (pa_cons (pe_ix ix_seq (pv 8) pe_int (fun _ _ => rfl)) pa_nil))) (pa_cons (pe_tup (pa_cons (pv 3) (pa_cons (pv 4) pa_nil))) pa_nil))) pa_nil))))))
        (pss_one (ps_ret pe_bl))
        pss_nil)
      (pss_cons (ps_set (i := 8) sc_law.nd rfl (by first | exact Or.inl rfl | exact Or.inr rfl) (pe_callS (ok__law_other_book T) (hr.mono (by decide)) rfl T.g__law_other_book T.k__law_other_book T.b__law_other_book (fun σ => passAt tk σ) (pa_cons (pv 1) (pa_cons (pe_ix ix_seq (pv 5) pe_int (fun _ _ => rfl)) (pa_cons (pe_ix ix_seq (pv 5) pe_int (fun _ _ => rfl)) pa_nil)))))
      (pss_cons (ps_if (pt_not (pt_val (pe_callS (ok__law_alike T) (hr.mono (by decide)) rfl T.g__law_alike T.k__law_alike T.b__law_alike (fun σ => passAt tk σ) (pa_cons (pv 7) (pa_cons (pe_make T.cm_Book (ok_Book__init__ T) (hr.mono (by decide)) rfl T.gc_Book T.b_Book__init__ .nil (passF tk) (pa_cons (pe_ix ix_seq (pv 8) pe_int (fun _ _ => rfl)) (pa_cons (pe_ix ix_seq (pv 8) pe_int (fun _ _ => rfl)) pa_nil))) (pa_cons (pe_callS (ok__law_same T 6) (hr.mono (by decide)) rfl T.g__law_same T.k__law_same T.b__law_same (fun σ => passAt tk σ) (pa_cons (pv 8) (pa_cons (pv 5) pa_nil))) pa_nil))))))
        (pss_one (ps_ret pe_bl))
        pss_nil)
      (pss_cons (ps_for (passes_of rfl) rfl (pi_seq (pe_lst (pa_cons (pe_tup (pa_cons (pv 3) (pa_cons (pv 4) pa_nil))) (pa_cons (pv 5) (pa_cons pe_non (pa_cons pe_int (pa_cons pe_bl (pa_cons pe_str (pa_cons (pe_lst pa_nil) (pa_cons pe_dnewK (pa_cons (pv 3) (pa_cons (pv 4) pa_nil)))))))))))) (pg_name (i := 9) sc_law.nd rfl (by first | exact Or.inl rfl | exact Or.inr rfl))
        (pss_one (ps_if (PW.pt (pw_or (pt_not (pt_val (pe_callS (ok__law_alike T) (hr.mono (by decide)) rfl T.g__law_alike T.k__law_alike T.b__law_alike (fun σ => passAt tk σ) (pa_cons (pv 6) (pa_cons (pv 9) (pa_cons pe_bl pa_nil)))))) (pw_or1 (pt_not (pt_val (pe_callS (ok__law_alike T) (hr.mono (by decide)) rfl T.g__law_alike T.k__law_alike T.b__law_alike (fun σ => passAt tk σ) (pa_cons (pv 7) (pa_cons (pv 9) (pa_cons pe_bl pa_nil)))))))))
        (pss_one (ps_ret pe_bl))
        pss_nil)))
      (pss_one (ps_ret (pe_and (pe_callS (ok__law_alike T) (hr.mono (by decide)) rfl T.g__law_alike T.k__law_alike T.b__law_alike (fun σ => passAt tk σ) (pa_cons (pv 6) (pa_cons (pv 7) (pa_cons pe_bl pa_nil)))) (pe_and (pe_callS (ok__law_same T 6) (hr.mono (by decide)) rfl T.g__law_same T.k__law_same T.b__law_same (fun σ => passAt tk σ) (pa_cons (pe_fld (pv 6) rfl) (pa_cons (pv 3) pa_nil))) (pe_one (pe_callS (ok__law_same T 6) (hr.mono (by decide)) rfl T.g__law_same T.k__law_same T.b__law_same (fun σ => passAt tk σ) (pa_cons (pe_fld (pv 7) rfl) (pa_cons (pe_ix ix_seq (pv 5) pe_int (fun _ _ => rfl)) pa_nil)))))))))))))))))))))),
    (ds_seq (ds_callOwn (i := 1) (n := 1) (fs := fs__law_source K) (dac_cons (de_var 0) dac_nil))
      (ds_seq (ds_asg (de_op o_add de_int (de_call (n := 2) (fs := fs__law_draw K) (dac_own (j := 1) (dac_cons de_int dac_nil)))) (dg_name 2))
      (ds_seq (ds_asg (de_call (n := 3) (fs := fs__law_widths K) (dac_own (j := 1) (dac_cons (de_var 2) (dac_cons de_bl dac_nil)))) (dg_name 3))
      (ds_seq (ds_asg (de_call (n := 5) (fs := fs__law_pipes K) (dac_own (j := 1) (dac_cons (de_var 2) (dac_cons (de_call (n := 2) (fs := fs__law_draw K) (dac_own (j := 1) (dac_cons de_int dac_nil))) (dac_cons de_int (dac_cons de_bl dac_nil)))))) (dg_name 4))
      (ds_seq (ds_asg (de_call (n := 1) (fs := fs__law_book K) (dac_own (j := 1) dac_nil)) (dg_name 5))
      (ds_seq (ds_asg (de_makeI (n := 2) (fs := fs_Web__init__ K T.Z) (da_cons (de_var 3) (da_cons (de_var 4) da_nil))) (dg_name 6))
      (ds_seq (ds_asg (de_makeI (n := 2) (fs := fs_Book__init__ K T.Z) (da_cons (de_op o_ix (de_var 5) de_int) (da_cons (de_op o_ix (de_var 5) de_int) da_nil))) (dg_name 7))
      (ds_seq (ds_if (dt_not (dt_B (de_call (n := 3) (fs := fs__law_alike K T.Z) (dac_cons (de_var 6) (dac_cons (de_makeI (n := 2) (fs := fs_Web__init__ K T.Z) (da_cons (de_cb o_tupleOf (da_cons (de_cb o_listOf (da_cons (de_var 3) da_nil)) da_nil)) (da_cons (de_cb o_tupleOf (da_cons (de_cb o_listOf (da_cons (de_var 4) da_nil)) da_nil)) da_nil))) (dac_cons de_bl dac_nil)))))) (ds_ret de_bl) ds_nil)
      (ds_seq (ds_if (dt_not (dt_B (de_call (n := 3) (fs := fs__law_alike K T.Z) (dac_cons (de_var 7) (dac_cons (de_makeI (n := 2) (fs := fs_Book__init__ K T.Z) (da_cons (de_cb o_tupleOf (da_cons (de_cb o_listOf (da_cons (de_op o_ix (de_var 5) de_int) da_nil)) da_nil)) (da_cons (de_cb o_tupleOf (da_cons (de_cb o_listOf (da_cons (de_op o_ix (de_var 5) de_int) da_nil)) da_nil)) da_nil))) (dac_cons de_bl dac_nil)))))) (ds_ret de_bl) ds_nil)
      (ds_seq (ds_asg (de_call (n := 3) (fs := fs__law_other_web K) (dac_own (j := 1) (dac_cons (de_var 3) (dac_cons (de_var 4) dac_nil)))) (dg_name 8))
      (ds_seq (ds_if (dt_not (dt_B (de_call (n := 3) (fs := fs__law_alike K T.Z) (dac_cons (de_var 6) (dac_cons (de_makeI (n := 2) (fs := fs_Web__init__ K T.Z) (da_cons (de_slA (de_op o_ix (de_var 8) de_int) do_no (do_part de_int)) (da_cons (de_op o_ix (de_var 8) de_int) da_nil))) (dac_cons (de_call (n := 2) (fs := (fs__law_same K 6)) (dac_cons (de_tup (da_cons (de_slA (de_op o_ix (de_var 8) de_int) do_no (do_part de_int)) (da_cons (de_op o_ix (de_var 8) de_int) da_nil))) (dac_cons (de_tup (da_cons (de_var 3) (da_cons (de_var 4) da_nil))) dac_nil))) dac_nil)))))) (ds_ret de_bl) ds_nil)
      (ds_seq (ds_asg (de_call (n := 3) (fs := fs__law_other_book K) (dac_own (j := 1) (dac_cons (de_op o_ix (de_var 5) de_int) (dac_cons (de_op o_ix (de_var 5) de_int) dac_nil)))) (dg_name 8))
      (ds_seq (ds_if (dt_not (dt_B (de_call (n := 3) (fs := fs__law_alike K T.Z) (dac_cons (de_var 7) (dac_cons (de_makeI (n := 2) (fs := fs_Book__init__ K T.Z) (da_cons (de_op o_ix (de_var 8) de_int) (da_cons (de_op o_ix (de_var 8) de_int) da_nil))) (dac_cons (de_call (n := 2) (fs := (fs__law_same K 6)) (dac_cons (de_var 8) (dac_cons (de_var 5) dac_nil))) dac_nil)))))) (ds_ret de_bl) ds_nil)
      (ds_seq (ds_for (wI := (wSeq (wLst (wCons (wTup (wCons (wVar 3) (wCons (wVar 4) wNil))) (wCons (wVar 5) (wCons (wC .non) (wCons (wC (.int 0)) (wCons (wC (.bl true)) (wCons (wC (.str "web")) (wCons (wLst wNil) (wCons wDict0 (wCons (wVar 3) (wCons (wVar 4) wNil))))))))))))) (wg := (wName 9)) (wb := (wIfS (wOr (wNot (wB (wCall 3 (fs__law_alike K T.Z) (wcCons (wVar 6) (wcCons (wVar 9) (wcCons (wC (.bl false)) wcNil)))))) (wNot (wB (wCall 3 (fs__law_alike K T.Z) (wcCons (wVar 7) (wcCons (wVar 9) (wcCons (wC (.bl false)) wcNil))))))) (wRet (wC (.bl false))) wNext)) (di_seq (de_lst (da_cons (de_tup (da_cons (de_var 3) (da_cons (de_var 4) da_nil))) (da_cons (de_var 5) (da_cons de_non (da_cons de_int (da_cons de_bl (da_cons de_str (da_cons (de_lst da_nil) (da_cons de_dict0 (da_cons (de_var 3) (da_cons (de_var 4) da_nil)))))))))))) (dg_name 9) (ds_if (dt_or (dt_not (dt_B (de_call (n := 3) (fs := fs__law_alike K T.Z) (dac_cons (de_var 6) (dac_cons (de_var 9) (dac_cons de_bl dac_nil)))))) (dt_not (dt_B (de_call (n := 3) (fs := fs__law_alike K T.Z) (dac_cons (de_var 7) (dac_cons (de_var 9) (dac_cons de_bl dac_nil))))))) (ds_ret de_bl) ds_nil))
      (ds_ret (de_and (de_call (n := 3) (fs := fs__law_alike K T.Z) (dac_cons (de_var 6) (dac_cons (de_var 7) (dac_cons de_bl dac_nil)))) (de_and (de_call (n := 2) (fs := (fs__law_same K 6)) (dac_cons (de_fld T.it_Web.cl T.na_Web_widths (de_var 6)) (dac_cons (de_var 3) dac_nil))) (de_call (n := 2) (fs := (fs__law_same K 6)) (dac_cons (de_fld T.it_Book.cl T.na_Book_kinds (de_var 7)) (dac_cons (de_op o_ix (de_var 5) de_int) dac_nil))))))))))))))))))))⟩
end
end K04

namespace K04
open PySem PySem.Spec PyProof.Rows L2 L3
/-! ## the law's own head -/
def noTbl (H : Hp) : Hp := fun b => match H b with | some (.tbl _) => none | o => o
theorem noTbl_same {H : Hp} : Same (noTbl H) H := fun b o e => by
  unfold noTbl at e
  split at e
  · cases e
  · exact e
theorem noTbl_nt {H : Hp} : ∀ b o, noTbl H b = some o → NT o := fun b o e ps z => by
  subst z
  unfold noTbl at e
  split at e
  · cases e
  · rename_i h
    exact h ps e
theorem noTbl_seq {K : PySem.W.Frag} {H : Hp} {a : Addr} {xs : List V} (h : SqL K H a xs) : SqL K (noTbl H) a xs := by
  rcases h with (h | ⟨o, h⟩) | h
  · exact .inl (.inl (by unfold noTbl; rw [h]))
  · exact .inl (.inr ⟨o, by unfold noTbl; rw [h]⟩)
  · exact .inr h
theorem law_at {l : PySem.W.OpenLaw} {w : World} {K : PySem.W.Frag} {mg : Str → Option Value} {h : Heap} (T : Txt K mg) (L : LawF K T.Z) {f : Addr} {kV doc pm cdv ct oc : Value} {an od : Option Addr} {osl : Array (Option Value)}
    (lk : K.lookup f = some ⟨oc, od, .func (PySem.W.fnOf "law" "law" (defArgs s_law) (defBody s_law) (defScope s_law) .none kV doc pm an cdv ct), osl⟩) (hcd : PySem.W.codeIn K cdv "law" = true) : LamX.LawAtS l w K (L2.CX l.prog w) 8 63 "script" mg f h := by
  letI TB : TabT := ⟨[]⟩
  refine ⟨_, [], spOf K 1 (fs_law K T.Z), fun p hp => (nomatch hp), fun p hp => (nomatch hp), fun p hp => (nomatch hp), fun s v => .of_eq rfl, fun H a ns hn _ _ hS => ?_, fun base _ _ _ => ok_law T lk hcd⟩
  refine ⟨rfl, noTbl H, [.dat (.fl (ns.map D.int))], fun d _ => d = .bl true, fun _ _ => False, ⟨⟨fun p hp => (nomatch hp), noTbl_nt⟩, noTbl_same, rfl, fun i s c h1 h2 => ?_, fun i c h1 => ?_, fun i j c d a h1 _ f _ => ?_⟩, ⟨ns, rfl, by omega, L, rfl⟩, fun v d cs' F' H' _ _ _ r e => ?_, fun _ _ _ _ _ _ _ _ _ _ z => z⟩
  · match i, h1, h2 with
    | 0, h1, h2 =>
      cases h1; cases h2
      exact ⟨.ref a, rfl, .fl (noTbl_seq hS) Reps.ints⟩
    | i + 1, h1, h2 => simp at h1
  · match i, h1 with
    | 0, h1 => cases h1; exact trivial
    | i + 1, h1 => simp at h1
  · match i, h1 with
    | 0, h1 => cases h1; exact f.elim
    | i + 1, h1 => simp at h1
  · subst e
    exact r.bl_of
theorem cx_none {P : Program} : ∀ (w : World) (H : Hp) (s : Shared) (e : Value) (s' : Shared), L2.CX P w [] H s (fun _ _ _ => False) e s' → False := fun w H s e s' ⟨_, _, _, _, _, _, _, _, _, _, _, _, z⟩ => z
theorem kit_bt {K : PySem.W.Frag} {C : Addr} {T : String} {b : Bool} (h1 : PySem.W.kitMeta T = true) (h : PySem.W.subIn K (.ref C) (.type T) = some b) : PySem.W.kitOne K (.ref C) (.type T) = some b := by
  show (if (Value.ref C == Value.type T) = true then some true else if PySem.W.kitMeta T = true then PySem.W.subIn K (.ref C) (.type T) else none) = some b
  have e : (Value.ref C == Value.type T) = false := rfl
  rw [e, if_neg (by decide), if_pos h1]
  exact h
theorem kit_cr {K : PySem.W.Frag} {C D : Addr} {b : Bool} (h1 : PySem.W.isClsIn K D = true) (h2 : PySem.W.typeIn K (.ref D) = some (.type "type")) (h : PySem.W.subIn K (.ref C) (.ref D) = some b) : PySem.W.kitCls K (.ref C) (.ref D) = some b := by
  have e2 : ((PySem.W.clsIn K D).isSome && PySem.W.typeIn K (.ref D) == some (.type "type")) = true := by
    have h1' : (PySem.W.clsIn K D).isSome = true := h1
    rw [h1', h2]
    rfl
  show (if ((PySem.W.clsIn K D).isSome && PySem.W.typeIn K (.ref D) == some (.type "type")) = true then PySem.W.subIn K (.ref C) (.ref D) else none) = some b
  rw [if_pos e2]
  exact h
theorem kit_rt {K : PySem.W.Frag} {C D : Addr} (h1 : PySem.W.isClsIn K D = true) (h2 : PySem.W.typeIn K (.ref D) = some (.type "type")) (h : PySem.W.subIn K (.ref C) (.ref D) = some true) : PySem.W.kitOne K (.ref C) (.ref D) = some true := by
  show (if (Value.ref C == Value.ref D) = true then some true else PySem.W.kitCls K (.ref C) (.ref D)) = some true
  rw [kit_cr h1 h2 h]
  split <;> rfl
theorem kit_rf {K : PySem.W.Frag} {C D : Addr} (hne : (Value.ref C == Value.ref D) = false) (h1 : PySem.W.isClsIn K D = true) (h2 : PySem.W.typeIn K (.ref D) = some (.type "type")) (h : PySem.W.subIn K (.ref C) (.ref D) = some false) : PySem.W.kitOne K (.ref C) (.ref D) = some false := by
  show (if (Value.ref C == Value.ref D) = true then some true else PySem.W.kitCls K (.ref C) (.ref D)) = some false
  rw [kit_cr h1 h2 h, hne]
  rfl
section
variable {K : PySem.W.Frag} {mg : Str → Option Value}
open PySem.W PySem.Calls PySem.HandSPX in
theorem all_mk {l : PySem.W.OpenLaw} {w : World} {h : Heap} {fa : Addr} (X : K.In h) (G : h.Ns mainGlobals mg) (hfa : mg "law" = some (.ref fa))
    {C_Book : Addr}
    {C_Web : Addr}
    {C_TidesError : Addr}
    {C_BadBook : Addr}
    {C_BadWeb : Addr}
    {f_is_integer : Addr} {od_is_integer an_is_integer : Option Addr} {sl_is_integer : Array (Option Value)} {oc_is_integer kV_is_integer dc_is_integer pm_is_integer cd_is_integer ct_is_integer : Value}
    {f_is_between : Addr} {od_is_between an_is_between : Option Addr} {sl_is_between : Array (Option Value)} {oc_is_between kV_is_between dc_is_between pm_is_between cd_is_between ct_is_between : Value}
    {f_is_tuple_of : Addr} {od_is_tuple_of an_is_tuple_of : Option Addr} {sl_is_tuple_of : Array (Option Value)} {oc_is_tuple_of kV_is_tuple_of dc_is_tuple_of pm_is_tuple_of cd_is_tuple_of ct_is_tuple_of : Value}
    {f_is_fraction : Addr} {od_is_fraction an_is_fraction : Option Addr} {sl_is_fraction : Array (Option Value)} {oc_is_fraction kV_is_fraction dc_is_fraction pm_is_fraction cd_is_fraction ct_is_fraction : Value}
    {f_at_most : Addr} {od_at_most an_at_most : Option Addr} {sl_at_most : Array (Option Value)} {oc_at_most kV_at_most dc_at_most pm_at_most cd_at_most ct_at_most : Value}
    {f_is_threshold : Addr} {od_is_threshold an_is_threshold : Option Addr} {sl_is_threshold : Array (Option Value)} {oc_is_threshold kV_is_threshold dc_is_threshold pm_is_threshold cd_is_threshold ct_is_threshold : Value}
    {f_is_list : Addr} {od_is_list an_is_list : Option Addr} {sl_is_list : Array (Option Value)} {oc_is_list kV_is_list dc_is_list pm_is_list cd_is_list ct_is_list : Value}
    {f_ascends : Addr} {od_ascends an_ascends : Option Addr} {sl_ascends : Array (Option Value)} {oc_ascends kV_ascends dc_ascends pm_ascends cd_ascends ct_ascends : Value}
    {f_is_width : Addr} {od_is_width an_is_width : Option Addr} {sl_is_width : Array (Option Value)} {oc_is_width kV_is_width dc_is_width pm_is_width cd_is_width ct_is_width : Value}
    {f_is_widths : Addr} {od_is_widths an_is_widths : Option Addr} {sl_is_widths : Array (Option Value)} {oc_is_widths kV_is_widths dc_is_widths pm_is_widths cd_is_widths ct_is_widths : Value}
    {f_is_pipe : Addr} {od_is_pipe an_is_pipe : Option Addr} {sl_is_pipe : Array (Option Value)} {oc_is_pipe kV_is_pipe dc_is_pipe pm_is_pipe cd_is_pipe ct_is_pipe : Value}
    {f_Web__init__ : Addr} {od_Web__init__ an_Web__init__ : Option Addr} {sl_Web__init__ : Array (Option Value)} {oc_Web__init__ kV_Web__init__ dc_Web__init__ pm_Web__init__ cd_Web__init__ ct_Web__init__ : Value}
    {f_Web__eq__ : Addr} {od_Web__eq__ an_Web__eq__ : Option Addr} {sl_Web__eq__ : Array (Option Value)} {oc_Web__eq__ kV_Web__eq__ dc_Web__eq__ pm_Web__eq__ cd_Web__eq__ ct_Web__eq__ : Value}
    {f_is_sort : Addr} {od_is_sort an_is_sort : Option Addr} {sl_is_sort : Array (Option Value)} {oc_is_sort kV_is_sort dc_is_sort pm_is_sort cd_is_sort ct_is_sort : Value}
    {f_is_sort_tuple : Addr} {od_is_sort_tuple an_is_sort_tuple : Option Addr} {sl_is_sort_tuple : Array (Option Value)} {oc_is_sort_tuple kV_is_sort_tuple dc_is_sort_tuple pm_is_sort_tuple cd_is_sort_tuple ct_is_sort_tuple : Value}
    {f_is_join : Addr} {od_is_join an_is_join : Option Addr} {sl_is_join : Array (Option Value)} {oc_is_join kV_is_join dc_is_join pm_is_join cd_is_join ct_is_join : Value}
    {f_is_kind : Addr} {od_is_kind an_is_kind : Option Addr} {sl_is_kind : Array (Option Value)} {oc_is_kind kV_is_kind dc_is_kind pm_is_kind cd_is_kind ct_is_kind : Value}
    {f_Book__init__ : Addr} {od_Book__init__ an_Book__init__ : Option Addr} {sl_Book__init__ : Array (Option Value)} {oc_Book__init__ kV_Book__init__ dc_Book__init__ pm_Book__init__ cd_Book__init__ ct_Book__init__ : Value}
    {f_Book__eq__ : Addr} {od_Book__eq__ an_Book__eq__ : Option Addr} {sl_Book__eq__ : Array (Option Value)} {oc_Book__eq__ kV_Book__eq__ dc_Book__eq__ pm_Book__eq__ cd_Book__eq__ ct_Book__eq__ : Value}
    {f__law_source : Addr} {od__law_source an__law_source : Option Addr} {sl__law_source : Array (Option Value)} {oc__law_source kV__law_source dc__law_source pm__law_source cd__law_source ct__law_source : Value}
    {f__law_mixed : Addr} {od__law_mixed an__law_mixed : Option Addr} {sl__law_mixed : Array (Option Value)} {oc__law_mixed kV__law_mixed dc__law_mixed pm__law_mixed cd__law_mixed ct__law_mixed : Value}
    {f__law_draw : Addr} {od__law_draw an__law_draw : Option Addr} {sl__law_draw : Array (Option Value)} {oc__law_draw kV__law_draw dc__law_draw pm__law_draw cd__law_draw ct__law_draw : Value}
    {f__law_pick : Addr} {od__law_pick an__law_pick : Option Addr} {sl__law_pick : Array (Option Value)} {oc__law_pick kV__law_pick dc__law_pick pm__law_pick cd__law_pick ct__law_pick : Value}
    {f__law_divisor : Addr} {od__law_divisor an__law_divisor : Option Addr} {sl__law_divisor : Array (Option Value)} {oc__law_divisor kV__law_divisor dc__law_divisor pm__law_divisor cd__law_divisor ct__law_divisor : Value}
    {f__law_made : Addr} {od__law_made an__law_made : Option Addr} {sl__law_made : Array (Option Value)} {oc__law_made kV__law_made dc__law_made pm__law_made cd__law_made ct__law_made : Value}
    {f__law_same : Addr} {od__law_same an__law_same : Option Addr} {sl__law_same : Array (Option Value)} {oc__law_same kV__law_same dc__law_same pm__law_same cd__law_same ct__law_same : Value}
    {f__law_in_order : Addr} {od__law_in_order an__law_in_order : Option Addr} {sl__law_in_order : Array (Option Value)} {oc__law_in_order kV__law_in_order dc__law_in_order pm__law_in_order cd__law_in_order ct__law_in_order : Value}
    {f__law_steps : Addr} {od__law_steps an__law_steps : Option Addr} {sl__law_steps : Array (Option Value)} {oc__law_steps kV__law_steps dc__law_steps pm__law_steps cd__law_steps ct__law_steps : Value}
    {f__law_widths : Addr} {od__law_widths an__law_widths : Option Addr} {sl__law_widths : Array (Option Value)} {oc__law_widths kV__law_widths dc__law_widths pm__law_widths cd__law_widths ct__law_widths : Value}
    {f__law_pipe : Addr} {od__law_pipe an__law_pipe : Option Addr} {sl__law_pipe : Array (Option Value)} {oc__law_pipe kV__law_pipe dc__law_pipe pm__law_pipe cd__law_pipe ct__law_pipe : Value}
    {f__law_pipes : Addr} {od__law_pipes an__law_pipes : Option Addr} {sl__law_pipes : Array (Option Value)} {oc__law_pipes kV__law_pipes dc__law_pipes pm__law_pipes cd__law_pipes ct__law_pipes : Value}
    {f__law_with : Addr} {od__law_with an__law_with : Option Addr} {sl__law_with : Array (Option Value)} {oc__law_with kV__law_with dc__law_with pm__law_with cd__law_with ct__law_with : Value}
    {f__law_joins : Addr} {od__law_joins an__law_joins : Option Addr} {sl__law_joins : Array (Option Value)} {oc__law_joins kV__law_joins dc__law_joins pm__law_joins cd__law_joins ct__law_joins : Value}
    {f__law_book : Addr} {od__law_book an__law_book : Option Addr} {sl__law_book : Array (Option Value)} {oc__law_book kV__law_book dc__law_book pm__law_book cd__law_book ct__law_book : Value}
    {f__law_other_web : Addr} {od__law_other_web an__law_other_web : Option Addr} {sl__law_other_web : Array (Option Value)} {oc__law_other_web kV__law_other_web dc__law_other_web pm__law_other_web cd__law_other_web ct__law_other_web : Value}
    {f__law_other_book : Addr} {od__law_other_book an__law_other_book : Option Addr} {sl__law_other_book : Array (Option Value)} {oc__law_other_book kV__law_other_book dc__law_other_book pm__law_other_book cd__law_other_book ct__law_other_book : Value}
    {f__law_alike : Addr} {od__law_alike an__law_alike : Option Addr} {sl__law_alike : Array (Option Value)} {oc__law_alike kV__law_alike dc__law_alike pm__law_alike cd__law_alike ct__law_alike : Value}
    {nm_BadBook qn_BadBook : Str} {N_BadBook : Addr} {bs_BadBook bm_BadBook : List Value} {sn_BadBook : List Str} {sub_BadBook : List Value} {ab_BadBook : Bool} {col_BadBook : Option Bool} {dd_BadBook : Option Addr} {m0_BadBook m1_BadBook m2_BadBook m3_BadBook m5_BadBook : Option Value}
    {f_BadBook__init__ : Addr} {od_BadBook__init__ an_BadBook__init__ : Option Addr} {sl_BadBook__init__ : Array (Option Value)} {oc_BadBook__init__ kV_BadBook__init__ dc_BadBook__init__ pm_BadBook__init__ cd_BadBook__init__ ct_BadBook__init__ : Value}
    {nm_BadWeb qn_BadWeb : Str} {N_BadWeb : Addr} {bs_BadWeb bm_BadWeb : List Value} {sn_BadWeb : List Str} {sub_BadWeb : List Value} {ab_BadWeb : Bool} {col_BadWeb : Option Bool} {dd_BadWeb : Option Addr} {m0_BadWeb m1_BadWeb m2_BadWeb m3_BadWeb m5_BadWeb : Option Value}
    {f_BadWeb__init__ : Addr} {od_BadWeb__init__ an_BadWeb__init__ : Option Addr} {sl_BadWeb__init__ : Array (Option Value)} {oc_BadWeb__init__ kV_BadWeb__init__ dc_BadWeb__init__ pm_BadWeb__init__ cd_BadWeb__init__ ct_BadWeb__init__ : Value}
    {t_MOST_BOTTOM : Tok}
    {t_MOST_CAP : Tok}
    {t_MOST_KINDS : Tok}
    {t_MOST_PIPES : Tok}
    {t_MOST_SORTS : Tok}
    {t_MOST_THRESHOLDS : Tok}
    {t_MOST_TOP : Tok}
    {t_MOST_VESSELS : Tok}
    {t_MOST_WIDTH : Tok}
    {f_law : Addr} {od_law an_law : Option Addr} {sl_law : Array (Option Value)} {oc_law kV_law dc_law pm_law ct_law cd_law : Value}
    (aC_Book : PySem.W.nsIn K mainGlobals "Book" = some (some (.ref C_Book)))
    (aC_Web : PySem.W.nsIn K mainGlobals "Web" = some (some (.ref C_Web)))
    (aC_TidesError : PySem.W.nsIn K mainGlobals "TidesError" = some (some (.ref C_TidesError)))
    (aC_BadBook : PySem.W.nsIn K mainGlobals "BadBook" = some (some (.ref C_BadBook)))
    (aC_BadWeb : PySem.W.nsIn K mainGlobals "BadWeb" = some (some (.ref C_BadWeb)))
    (a_is_integer : PySem.W.nsIn K mainGlobals "is_integer" = some (some (.ref f_is_integer)))
    (l_is_integer : K.lookup f_is_integer = some ⟨oc_is_integer, od_is_integer, .func (PySem.W.fnOf "is_integer" "is_integer" (defArgs s_is_integer) (defBody s_is_integer) (defScope s_is_integer) .none kV_is_integer dc_is_integer pm_is_integer an_is_integer cd_is_integer ct_is_integer), sl_is_integer⟩)
    (c_is_integer : PySem.W.codeIn K cd_is_integer "is_integer" = true)
    (k_is_integer : PySem.W.keepIn K (.ref f_is_integer) = true)
    (a_is_between : PySem.W.nsIn K mainGlobals "is_between" = some (some (.ref f_is_between)))
    (l_is_between : K.lookup f_is_between = some ⟨oc_is_between, od_is_between, .func (PySem.W.fnOf "is_between" "is_between" (defArgs s_is_between) (defBody s_is_between) (defScope s_is_between) .none kV_is_between dc_is_between pm_is_between an_is_between cd_is_between ct_is_between), sl_is_between⟩)
    (c_is_between : PySem.W.codeIn K cd_is_between "is_between" = true)
    (k_is_between : PySem.W.keepIn K (.ref f_is_between) = true)
    (a_is_tuple_of : PySem.W.nsIn K mainGlobals "is_tuple_of" = some (some (.ref f_is_tuple_of)))
    (l_is_tuple_of : K.lookup f_is_tuple_of = some ⟨oc_is_tuple_of, od_is_tuple_of, .func (PySem.W.fnOf "is_tuple_of" "is_tuple_of" (defArgs s_is_tuple_of) (defBody s_is_tuple_of) (defScope s_is_tuple_of) .none kV_is_tuple_of dc_is_tuple_of pm_is_tuple_of an_is_tuple_of cd_is_tuple_of ct_is_tuple_of), sl_is_tuple_of⟩)
    (c_is_tuple_of : PySem.W.codeIn K cd_is_tuple_of "is_tuple_of" = true)
    (k_is_tuple_of : PySem.W.keepIn K (.ref f_is_tuple_of) = true)
    (a_is_fraction : PySem.W.nsIn K mainGlobals "is_fraction" = some (some (.ref f_is_fraction)))
    (l_is_fraction : K.lookup f_is_fraction = some ⟨oc_is_fraction, od_is_fraction, .func (PySem.W.fnOf "is_fraction" "is_fraction" (defArgs s_is_fraction) (defBody s_is_fraction) (defScope s_is_fraction) .none kV_is_fraction dc_is_fraction pm_is_fraction an_is_fraction cd_is_fraction ct_is_fraction), sl_is_fraction⟩)
    (c_is_fraction : PySem.W.codeIn K cd_is_fraction "is_fraction" = true)
    (k_is_fraction : PySem.W.keepIn K (.ref f_is_fraction) = true)
    (a_at_most : PySem.W.nsIn K mainGlobals "at_most" = some (some (.ref f_at_most)))
    (l_at_most : K.lookup f_at_most = some ⟨oc_at_most, od_at_most, .func (PySem.W.fnOf "at_most" "at_most" (defArgs s_at_most) (defBody s_at_most) (defScope s_at_most) .none kV_at_most dc_at_most pm_at_most an_at_most cd_at_most ct_at_most), sl_at_most⟩)
    (c_at_most : PySem.W.codeIn K cd_at_most "at_most" = true)
    (k_at_most : PySem.W.keepIn K (.ref f_at_most) = true)
    (a_is_threshold : PySem.W.nsIn K mainGlobals "is_threshold" = some (some (.ref f_is_threshold)))
    (l_is_threshold : K.lookup f_is_threshold = some ⟨oc_is_threshold, od_is_threshold, .func (PySem.W.fnOf "is_threshold" "is_threshold" (defArgs s_is_threshold) (defBody s_is_threshold) (defScope s_is_threshold) .none kV_is_threshold dc_is_threshold pm_is_threshold an_is_threshold cd_is_threshold ct_is_threshold), sl_is_threshold⟩)
    (c_is_threshold : PySem.W.codeIn K cd_is_threshold "is_threshold" = true)
    (k_is_threshold : PySem.W.keepIn K (.ref f_is_threshold) = true)
    (a_is_list : PySem.W.nsIn K mainGlobals "is_list" = some (some (.ref f_is_list)))
    (l_is_list : K.lookup f_is_list = some ⟨oc_is_list, od_is_list, .func (PySem.W.fnOf "is_list" "is_list" (defArgs s_is_list) (defBody s_is_list) (defScope s_is_list) .none kV_is_list dc_is_list pm_is_list an_is_list cd_is_list ct_is_list), sl_is_list⟩)
    (c_is_list : PySem.W.codeIn K cd_is_list "is_list" = true)
    (k_is_list : PySem.W.keepIn K (.ref f_is_list) = true)
    (a_ascends : PySem.W.nsIn K mainGlobals "ascends" = some (some (.ref f_ascends)))
    (l_ascends : K.lookup f_ascends = some ⟨oc_ascends, od_ascends, .func (PySem.W.fnOf "ascends" "ascends" (defArgs s_ascends) (defBody s_ascends) (defScope s_ascends) .none kV_ascends dc_ascends pm_ascends an_ascends cd_ascends ct_ascends), sl_ascends⟩)
    (c_ascends : PySem.W.codeIn K cd_ascends "ascends" = true)
    (k_ascends : PySem.W.keepIn K (.ref f_ascends) = true)
    (a_is_width : PySem.W.nsIn K mainGlobals "is_width" = some (some (.ref f_is_width)))
    (l_is_width : K.lookup f_is_width = some ⟨oc_is_width, od_is_width, .func (PySem.W.fnOf "is_width" "is_width" (defArgs s_is_width) (defBody s_is_width) (defScope s_is_width) .none kV_is_width dc_is_width pm_is_width an_is_width cd_is_width ct_is_width), sl_is_width⟩)
    (c_is_width : PySem.W.codeIn K cd_is_width "is_width" = true)
    (k_is_width : PySem.W.keepIn K (.ref f_is_width) = true)
    (a_is_widths : PySem.W.nsIn K mainGlobals "is_widths" = some (some (.ref f_is_widths)))
    (l_is_widths : K.lookup f_is_widths = some ⟨oc_is_widths, od_is_widths, .func (PySem.W.fnOf "is_widths" "is_widths" (defArgs s_is_widths) (defBody s_is_widths) (defScope s_is_widths) .none kV_is_widths dc_is_widths pm_is_widths an_is_widths cd_is_widths ct_is_widths), sl_is_widths⟩)
    (c_is_widths : PySem.W.codeIn K cd_is_widths "is_widths" = true)
    (k_is_widths : PySem.W.keepIn K (.ref f_is_widths) = true)
    (a_is_pipe : PySem.W.nsIn K mainGlobals "is_pipe" = some (some (.ref f_is_pipe)))
    (l_is_pipe : K.lookup f_is_pipe = some ⟨oc_is_pipe, od_is_pipe, .func (PySem.W.fnOf "is_pipe" "is_pipe" (defArgs s_is_pipe) (defBody s_is_pipe) (defScope s_is_pipe) .none kV_is_pipe dc_is_pipe pm_is_pipe an_is_pipe cd_is_pipe ct_is_pipe), sl_is_pipe⟩)
    (c_is_pipe : PySem.W.codeIn K cd_is_pipe "is_pipe" = true)
    (k_is_pipe : PySem.W.keepIn K (.ref f_is_pipe) = true)
    (a_Web__init__ : PySem.W.findIn K (.ref C_Web) "__init__" = some (some (.ref f_Web__init__)))
    (l_Web__init__ : K.lookup f_Web__init__ = some ⟨oc_Web__init__, od_Web__init__, .func (PySem.W.fnOf "__init__" "Web.__init__" (defArgs s_Web__init__) (defBody s_Web__init__) (defScope s_Web__init__) .none kV_Web__init__ dc_Web__init__ pm_Web__init__ an_Web__init__ cd_Web__init__ ct_Web__init__), sl_Web__init__⟩)
    (c_Web__init__ : PySem.W.codeIn K cd_Web__init__ "Web.__init__" = true)
    (k_Web__init__ : PySem.W.keepIn K (.ref f_Web__init__) = true)
    (a_Web__eq__ : PySem.W.findIn K (.ref C_Web) "__eq__" = some (some (.ref f_Web__eq__)))
    (l_Web__eq__ : K.lookup f_Web__eq__ = some ⟨oc_Web__eq__, od_Web__eq__, .func (PySem.W.fnOf "__eq__" "Web.__eq__" (defArgs s_Web__eq__) (defBody s_Web__eq__) (defScope s_Web__eq__) .none kV_Web__eq__ dc_Web__eq__ pm_Web__eq__ an_Web__eq__ cd_Web__eq__ ct_Web__eq__), sl_Web__eq__⟩)
    (c_Web__eq__ : PySem.W.codeIn K cd_Web__eq__ "Web.__eq__" = true)
    (k_Web__eq__ : PySem.W.keepIn K (.ref f_Web__eq__) = true)
    (a_is_sort : PySem.W.nsIn K mainGlobals "is_sort" = some (some (.ref f_is_sort)))
    (l_is_sort : K.lookup f_is_sort = some ⟨oc_is_sort, od_is_sort, .func (PySem.W.fnOf "is_sort" "is_sort" (defArgs s_is_sort) (defBody s_is_sort) (defScope s_is_sort) .none kV_is_sort dc_is_sort pm_is_sort an_is_sort cd_is_sort ct_is_sort), sl_is_sort⟩)
    (c_is_sort : PySem.W.codeIn K cd_is_sort "is_sort" = true)
    (k_is_sort : PySem.W.keepIn K (.ref f_is_sort) = true)
    (a_is_sort_tuple : PySem.W.nsIn K mainGlobals "is_sort_tuple" = some (some (.ref f_is_sort_tuple)))
    (l_is_sort_tuple : K.lookup f_is_sort_tuple = some ⟨oc_is_sort_tuple, od_is_sort_tuple, .func (PySem.W.fnOf "is_sort_tuple" "is_sort_tuple" (defArgs s_is_sort_tuple) (defBody s_is_sort_tuple) (defScope s_is_sort_tuple) .none kV_is_sort_tuple dc_is_sort_tuple pm_is_sort_tuple an_is_sort_tuple cd_is_sort_tuple ct_is_sort_tuple), sl_is_sort_tuple⟩)
    (c_is_sort_tuple : PySem.W.codeIn K cd_is_sort_tuple "is_sort_tuple" = true)
    (k_is_sort_tuple : PySem.W.keepIn K (.ref f_is_sort_tuple) = true)
    (a_is_join : PySem.W.nsIn K mainGlobals "is_join" = some (some (.ref f_is_join)))
    (l_is_join : K.lookup f_is_join = some ⟨oc_is_join, od_is_join, .func (PySem.W.fnOf "is_join" "is_join" (defArgs s_is_join) (defBody s_is_join) (defScope s_is_join) .none kV_is_join dc_is_join pm_is_join an_is_join cd_is_join ct_is_join), sl_is_join⟩)
    (c_is_join : PySem.W.codeIn K cd_is_join "is_join" = true)
    (k_is_join : PySem.W.keepIn K (.ref f_is_join) = true)
    (a_is_kind : PySem.W.nsIn K mainGlobals "is_kind" = some (some (.ref f_is_kind)))
    (l_is_kind : K.lookup f_is_kind = some ⟨oc_is_kind, od_is_kind, .func (PySem.W.fnOf "is_kind" "is_kind" (defArgs s_is_kind) (defBody s_is_kind) (defScope s_is_kind) .none kV_is_kind dc_is_kind pm_is_kind an_is_kind cd_is_kind ct_is_kind), sl_is_kind⟩)
    (c_is_kind : PySem.W.codeIn K cd_is_kind "is_kind" = true)
    (k_is_kind : PySem.W.keepIn K (.ref f_is_kind) = true)
    (a_Book__init__ : PySem.W.findIn K (.ref C_Book) "__init__" = some (some (.ref f_Book__init__)))
    (l_Book__init__ : K.lookup f_Book__init__ = some ⟨oc_Book__init__, od_Book__init__, .func (PySem.W.fnOf "__init__" "Book.__init__" (defArgs s_Book__init__) (defBody s_Book__init__) (defScope s_Book__init__) .none kV_Book__init__ dc_Book__init__ pm_Book__init__ an_Book__init__ cd_Book__init__ ct_Book__init__), sl_Book__init__⟩)
    (c_Book__init__ : PySem.W.codeIn K cd_Book__init__ "Book.__init__" = true)
    (k_Book__init__ : PySem.W.keepIn K (.ref f_Book__init__) = true)
    (a_Book__eq__ : PySem.W.findIn K (.ref C_Book) "__eq__" = some (some (.ref f_Book__eq__)))
    (l_Book__eq__ : K.lookup f_Book__eq__ = some ⟨oc_Book__eq__, od_Book__eq__, .func (PySem.W.fnOf "__eq__" "Book.__eq__" (defArgs s_Book__eq__) (defBody s_Book__eq__) (defScope s_Book__eq__) .none kV_Book__eq__ dc_Book__eq__ pm_Book__eq__ an_Book__eq__ cd_Book__eq__ ct_Book__eq__), sl_Book__eq__⟩)
    (c_Book__eq__ : PySem.W.codeIn K cd_Book__eq__ "Book.__eq__" = true)
    (k_Book__eq__ : PySem.W.keepIn K (.ref f_Book__eq__) = true)
    (a__law_source : PySem.W.nsIn K mainGlobals "_law_source" = some (some (.ref f__law_source)))
    (l__law_source : K.lookup f__law_source = some ⟨oc__law_source, od__law_source, .func (PySem.W.fnOf "_law_source" "_law_source" (defArgs s__law_source) (defBody s__law_source) (defScope s__law_source) .none kV__law_source dc__law_source pm__law_source an__law_source cd__law_source ct__law_source), sl__law_source⟩)
    (c__law_source : PySem.W.codeIn K cd__law_source "_law_source" = true)
    (k__law_source : PySem.W.keepIn K (.ref f__law_source) = true)
    (a__law_mixed : PySem.W.nsIn K mainGlobals "_law_mixed" = some (some (.ref f__law_mixed)))
    (l__law_mixed : K.lookup f__law_mixed = some ⟨oc__law_mixed, od__law_mixed, .func (PySem.W.fnOf "_law_mixed" "_law_mixed" (defArgs s__law_mixed) (defBody s__law_mixed) (defScope s__law_mixed) .none kV__law_mixed dc__law_mixed pm__law_mixed an__law_mixed cd__law_mixed ct__law_mixed), sl__law_mixed⟩)
    (c__law_mixed : PySem.W.codeIn K cd__law_mixed "_law_mixed" = true)
    (k__law_mixed : PySem.W.keepIn K (.ref f__law_mixed) = true)
    (a__law_draw : PySem.W.nsIn K mainGlobals "_law_draw" = some (some (.ref f__law_draw)))
    (l__law_draw : K.lookup f__law_draw = some ⟨oc__law_draw, od__law_draw, .func (PySem.W.fnOf "_law_draw" "_law_draw" (defArgs s__law_draw) (defBody s__law_draw) (defScope s__law_draw) .none kV__law_draw dc__law_draw pm__law_draw an__law_draw cd__law_draw ct__law_draw), sl__law_draw⟩)
    (c__law_draw : PySem.W.codeIn K cd__law_draw "_law_draw" = true)
    (k__law_draw : PySem.W.keepIn K (.ref f__law_draw) = true)
    (a__law_pick : PySem.W.nsIn K mainGlobals "_law_pick" = some (some (.ref f__law_pick)))
    (l__law_pick : K.lookup f__law_pick = some ⟨oc__law_pick, od__law_pick, .func (PySem.W.fnOf "_law_pick" "_law_pick" (defArgs s__law_pick) (defBody s__law_pick) (defScope s__law_pick) .none kV__law_pick dc__law_pick pm__law_pick an__law_pick cd__law_pick ct__law_pick), sl__law_pick⟩)
    (c__law_pick : PySem.W.codeIn K cd__law_pick "_law_pick" = true)
    (k__law_pick : PySem.W.keepIn K (.ref f__law_pick) = true)
    (a__law_divisor : PySem.W.nsIn K mainGlobals "_law_divisor" = some (some (.ref f__law_divisor)))
    (l__law_divisor : K.lookup f__law_divisor = some ⟨oc__law_divisor, od__law_divisor, .func (PySem.W.fnOf "_law_divisor" "_law_divisor" (defArgs s__law_divisor) (defBody s__law_divisor) (defScope s__law_divisor) .none kV__law_divisor dc__law_divisor pm__law_divisor an__law_divisor cd__law_divisor ct__law_divisor), sl__law_divisor⟩)
    (c__law_divisor : PySem.W.codeIn K cd__law_divisor "_law_divisor" = true)
    (k__law_divisor : PySem.W.keepIn K (.ref f__law_divisor) = true)
    (a__law_made : PySem.W.nsIn K mainGlobals "_law_made" = some (some (.ref f__law_made)))
    (l__law_made : K.lookup f__law_made = some ⟨oc__law_made, od__law_made, .func (PySem.W.fnOf "_law_made" "_law_made" (defArgs s__law_made) (defBody s__law_made) (defScope s__law_made) .none kV__law_made dc__law_made pm__law_made an__law_made cd__law_made ct__law_made), sl__law_made⟩)
    (c__law_made : PySem.W.codeIn K cd__law_made "_law_made" = true)
    (k__law_made : PySem.W.keepIn K (.ref f__law_made) = true)
    (a__law_same : PySem.W.nsIn K mainGlobals "_law_same" = some (some (.ref f__law_same)))
    (l__law_same : K.lookup f__law_same = some ⟨oc__law_same, od__law_same, .func (PySem.W.fnOf "_law_same" "_law_same" (defArgs s__law_same) (defBody s__law_same) (defScope s__law_same) .none kV__law_same dc__law_same pm__law_same an__law_same cd__law_same ct__law_same), sl__law_same⟩)
    (c__law_same : PySem.W.codeIn K cd__law_same "_law_same" = true)
    (k__law_same : PySem.W.keepIn K (.ref f__law_same) = true)
    (a__law_in_order : PySem.W.nsIn K mainGlobals "_law_in_order" = some (some (.ref f__law_in_order)))
    (l__law_in_order : K.lookup f__law_in_order = some ⟨oc__law_in_order, od__law_in_order, .func (PySem.W.fnOf "_law_in_order" "_law_in_order" (defArgs s__law_in_order) (defBody s__law_in_order) (defScope s__law_in_order) .none kV__law_in_order dc__law_in_order pm__law_in_order an__law_in_order cd__law_in_order ct__law_in_order), sl__law_in_order⟩)
    (c__law_in_order : PySem.W.codeIn K cd__law_in_order "_law_in_order" = true)
    (k__law_in_order : PySem.W.keepIn K (.ref f__law_in_order) = true)
    (a__law_steps : PySem.W.nsIn K mainGlobals "_law_steps" = some (some (.ref f__law_steps)))
    (l__law_steps : K.lookup f__law_steps = some ⟨oc__law_steps, od__law_steps, .func (PySem.W.fnOf "_law_steps" "_law_steps" (defArgs s__law_steps) (defBody s__law_steps) (defScope s__law_steps) .none kV__law_steps dc__law_steps pm__law_steps an__law_steps cd__law_steps ct__law_steps), sl__law_steps⟩)
    (c__law_steps : PySem.W.codeIn K cd__law_steps "_law_steps" = true)
    (k__law_steps : PySem.W.keepIn K (.ref f__law_steps) = true)
    (a__law_widths : PySem.W.nsIn K mainGlobals "_law_widths" = some (some (.ref f__law_widths)))
    (l__law_widths : K.lookup f__law_widths = some ⟨oc__law_widths, od__law_widths, .func (PySem.W.fnOf "_law_widths" "_law_widths" (defArgs s__law_widths) (defBody s__law_widths) (defScope s__law_widths) .none kV__law_widths dc__law_widths pm__law_widths an__law_widths cd__law_widths ct__law_widths), sl__law_widths⟩)
    (c__law_widths : PySem.W.codeIn K cd__law_widths "_law_widths" = true)
    (k__law_widths : PySem.W.keepIn K (.ref f__law_widths) = true)
    (a__law_pipe : PySem.W.nsIn K mainGlobals "_law_pipe" = some (some (.ref f__law_pipe)))
    (l__law_pipe : K.lookup f__law_pipe = some ⟨oc__law_pipe, od__law_pipe, .func (PySem.W.fnOf "_law_pipe" "_law_pipe" (defArgs s__law_pipe) (defBody s__law_pipe) (defScope s__law_pipe) .none kV__law_pipe dc__law_pipe pm__law_pipe an__law_pipe cd__law_pipe ct__law_pipe), sl__law_pipe⟩)
    (c__law_pipe : PySem.W.codeIn K cd__law_pipe "_law_pipe" = true)
    (k__law_pipe : PySem.W.keepIn K (.ref f__law_pipe) = true)
    (a__law_pipes : PySem.W.nsIn K mainGlobals "_law_pipes" = some (some (.ref f__law_pipes)))
    (l__law_pipes : K.lookup f__law_pipes = some ⟨oc__law_pipes, od__law_pipes, .func (PySem.W.fnOf "_law_pipes" "_law_pipes" (defArgs s__law_pipes) (defBody s__law_pipes) (defScope s__law_pipes) .none kV__law_pipes dc__law_pipes pm__law_pipes an__law_pipes cd__law_pipes ct__law_pipes), sl__law_pipes⟩)
    (c__law_pipes : PySem.W.codeIn K cd__law_pipes "_law_pipes" = true)
    (k__law_pipes : PySem.W.keepIn K (.ref f__law_pipes) = true)
    (a__law_with : PySem.W.nsIn K mainGlobals "_law_with" = some (some (.ref f__law_with)))
    (l__law_with : K.lookup f__law_with = some ⟨oc__law_with, od__law_with, .func (PySem.W.fnOf "_law_with" "_law_with" (defArgs s__law_with) (defBody s__law_with) (defScope s__law_with) .none kV__law_with dc__law_with pm__law_with an__law_with cd__law_with ct__law_with), sl__law_with⟩)
    (c__law_with : PySem.W.codeIn K cd__law_with "_law_with" = true)
    (k__law_with : PySem.W.keepIn K (.ref f__law_with) = true)
    (a__law_joins : PySem.W.nsIn K mainGlobals "_law_joins" = some (some (.ref f__law_joins)))
    (l__law_joins : K.lookup f__law_joins = some ⟨oc__law_joins, od__law_joins, .func (PySem.W.fnOf "_law_joins" "_law_joins" (defArgs s__law_joins) (defBody s__law_joins) (defScope s__law_joins) .none kV__law_joins dc__law_joins pm__law_joins an__law_joins cd__law_joins ct__law_joins), sl__law_joins⟩)
    (c__law_joins : PySem.W.codeIn K cd__law_joins "_law_joins" = true)
    (k__law_joins : PySem.W.keepIn K (.ref f__law_joins) = true)
    (a__law_book : PySem.W.nsIn K mainGlobals "_law_book" = some (some (.ref f__law_book)))
    (l__law_book : K.lookup f__law_book = some ⟨oc__law_book, od__law_book, .func (PySem.W.fnOf "_law_book" "_law_book" (defArgs s__law_book) (defBody s__law_book) (defScope s__law_book) .none kV__law_book dc__law_book pm__law_book an__law_book cd__law_book ct__law_book), sl__law_book⟩)
    (c__law_book : PySem.W.codeIn K cd__law_book "_law_book" = true)
    (k__law_book : PySem.W.keepIn K (.ref f__law_book) = true)
    (a__law_other_web : PySem.W.nsIn K mainGlobals "_law_other_web" = some (some (.ref f__law_other_web)))
    (l__law_other_web : K.lookup f__law_other_web = some ⟨oc__law_other_web, od__law_other_web, .func (PySem.W.fnOf "_law_other_web" "_law_other_web" (defArgs s__law_other_web) (defBody s__law_other_web) (defScope s__law_other_web) .none kV__law_other_web dc__law_other_web pm__law_other_web an__law_other_web cd__law_other_web ct__law_other_web), sl__law_other_web⟩)
    (c__law_other_web : PySem.W.codeIn K cd__law_other_web "_law_other_web" = true)
    (k__law_other_web : PySem.W.keepIn K (.ref f__law_other_web) = true)
    (a__law_other_book : PySem.W.nsIn K mainGlobals "_law_other_book" = some (some (.ref f__law_other_book)))
    (l__law_other_book : K.lookup f__law_other_book = some ⟨oc__law_other_book, od__law_other_book, .func (PySem.W.fnOf "_law_other_book" "_law_other_book" (defArgs s__law_other_book) (defBody s__law_other_book) (defScope s__law_other_book) .none kV__law_other_book dc__law_other_book pm__law_other_book an__law_other_book cd__law_other_book ct__law_other_book), sl__law_other_book⟩)
    (c__law_other_book : PySem.W.codeIn K cd__law_other_book "_law_other_book" = true)
    (k__law_other_book : PySem.W.keepIn K (.ref f__law_other_book) = true)
    (a__law_alike : PySem.W.nsIn K mainGlobals "_law_alike" = some (some (.ref f__law_alike)))
    (l__law_alike : K.lookup f__law_alike = some ⟨oc__law_alike, od__law_alike, .func (PySem.W.fnOf "_law_alike" "_law_alike" (defArgs s__law_alike) (defBody s__law_alike) (defScope s__law_alike) .none kV__law_alike dc__law_alike pm__law_alike an__law_alike cd__law_alike ct__law_alike), sl__law_alike⟩)
    (c__law_alike : PySem.W.codeIn K cd__law_alike "_law_alike" = true)
    (k__law_alike : PySem.W.keepIn K (.ref f__law_alike) = true)
    (xL_BadBook : K.lookup C_BadBook = some (excClassObj nm_BadBook qn_BadBook C_BadBook N_BadBook bs_BadBook bm_BadBook true sn_BadBook sub_BadBook ab_BadBook col_BadBook dd_BadBook m0_BadBook m1_BadBook m2_BadBook m3_BadBook m5_BadBook "ValueError.__new__"))
    (xr_BadBook : refsVE bm_BadBook = true)
    (xi_BadBook : PySem.W.findIn K (.ref C_BadBook) "__init__" = some (some (.ref f_BadBook__init__)))
    (l_BadBook__init__ : K.lookup f_BadBook__init__ = some ⟨oc_BadBook__init__, od_BadBook__init__, .func (PySem.W.fnOf "__init__" "BadBook.__init__" (defArgs sx_BadBook) (defBody sx_BadBook) (defScope sx_BadBook) .none kV_BadBook__init__ dc_BadBook__init__ pm_BadBook__init__ an_BadBook__init__ cd_BadBook__init__ ct_BadBook__init__), sl_BadBook__init__⟩)
    (c_BadBook__init__ : PySem.W.codeIn K cd_BadBook__init__ "BadBook.__init__" = true)
    (k_BadBook__init__ : PySem.W.keepIn K (.ref f_BadBook__init__) = true)
    (xt_BadBook : PySem.W.typeIn K (.ref f_BadBook__init__) = some (.type "function"))
    (xk_BadBook : PySem.W.keepIn K (.ref C_BadBook) = true)
    (xs_BadBook : PySem.W.subIn K (.ref C_BadBook) (.type "BaseException") = some true)
    (xy_BadBook : PySem.W.typeIn K (.ref C_BadBook) = some (.type "type"))
    (xsa_BadBook : PySem.W.findIn K (.ref C_BadBook) "__setattr__" = some (some (.builtin "object.__setattr__")))
    (xga_BadBook : PySem.W.findIn K (.ref C_BadBook) "__getattribute__" = some (some (.builtin "BaseException.__getattribute__")))
    (xgg_BadBook : PySem.W.findIn K (.ref C_BadBook) "__getattr__" = some none)
    (xhd_BadBook : PySem.W.hasDictIn K C_BadBook = true)
    (no_BadBook : PySem.W.findIn K (.ref C_BadBook) "part" = some none)
    (xL_BadWeb : K.lookup C_BadWeb = some (excClassObj nm_BadWeb qn_BadWeb C_BadWeb N_BadWeb bs_BadWeb bm_BadWeb true sn_BadWeb sub_BadWeb ab_BadWeb col_BadWeb dd_BadWeb m0_BadWeb m1_BadWeb m2_BadWeb m3_BadWeb m5_BadWeb "ValueError.__new__"))
    (xr_BadWeb : refsVE bm_BadWeb = true)
    (xi_BadWeb : PySem.W.findIn K (.ref C_BadWeb) "__init__" = some (some (.ref f_BadWeb__init__)))
    (l_BadWeb__init__ : K.lookup f_BadWeb__init__ = some ⟨oc_BadWeb__init__, od_BadWeb__init__, .func (PySem.W.fnOf "__init__" "BadWeb.__init__" (defArgs sx_BadWeb) (defBody sx_BadWeb) (defScope sx_BadWeb) .none kV_BadWeb__init__ dc_BadWeb__init__ pm_BadWeb__init__ an_BadWeb__init__ cd_BadWeb__init__ ct_BadWeb__init__), sl_BadWeb__init__⟩)
    (c_BadWeb__init__ : PySem.W.codeIn K cd_BadWeb__init__ "BadWeb.__init__" = true)
    (k_BadWeb__init__ : PySem.W.keepIn K (.ref f_BadWeb__init__) = true)
    (xt_BadWeb : PySem.W.typeIn K (.ref f_BadWeb__init__) = some (.type "function"))
    (xk_BadWeb : PySem.W.keepIn K (.ref C_BadWeb) = true)
    (xs_BadWeb : PySem.W.subIn K (.ref C_BadWeb) (.type "BaseException") = some true)
    (xy_BadWeb : PySem.W.typeIn K (.ref C_BadWeb) = some (.type "type"))
    (xsa_BadWeb : PySem.W.findIn K (.ref C_BadWeb) "__setattr__" = some (some (.builtin "object.__setattr__")))
    (xga_BadWeb : PySem.W.findIn K (.ref C_BadWeb) "__getattribute__" = some (some (.builtin "BaseException.__getattribute__")))
    (xgg_BadWeb : PySem.W.findIn K (.ref C_BadWeb) "__getattr__" = some none)
    (xhd_BadWeb : PySem.W.hasDictIn K C_BadWeb = true)
    (no_BadWeb : PySem.W.findIn K (.ref C_BadWeb) "part" = some none)
    (wm_Book : PySem.W.makesIn K C_Book = true)
    (wf_Book : PySem.W.isFn K (.ref f_Book__init__) = true)
    (wk_Book : PySem.W.keepIn K (.ref C_Book) = true)
    (wp_Book : PySem.W.plainGet K C_Book Str.empty = true)
    (wd_Book : PySem.W.hasDictIn K C_Book = true)
    (wo_Book : PySem.W.plainOver K C_Book = true)
    (ws_Book : PySem.W.findIn K (.ref C_Book) "__setattr__" = some (some (.builtin "object.__setattr__")))
    (wc_Book : PySem.W.findIn K (.ref C_Book) "__class__" = some (some (.builtin "object.__class__")))
    (wg_Book : PySem.W.specialIn K (.builtin "object.__class__") "__get__" = some (some (.builtin "getset_descriptor.__get__")))
    (wt_Book : PySem.W.takesIn K (.builtin "object.__class__") = some true)
    (wr_Book : PySem.W.mroIn K C_Book (.type "object") = some true)
    (wint_Book : PySem.W.subIn K (.ref C_Book) (.type "int") = some false)
    (wbool_Book : PySem.W.subIn K (.ref C_Book) (.type "bool") = some false)
    (wstr_Book : PySem.W.subIn K (.ref C_Book) (.type "str") = some false)
    (wtuple_Book : PySem.W.subIn K (.ref C_Book) (.type "tuple") = some false)
    (wlist_Book : PySem.W.subIn K (.ref C_Book) (.type "list") = some false)
    (wm_Web : PySem.W.makesIn K C_Web = true)
    (wf_Web : PySem.W.isFn K (.ref f_Web__init__) = true)
    (wk_Web : PySem.W.keepIn K (.ref C_Web) = true)
    (wp_Web : PySem.W.plainGet K C_Web Str.empty = true)
    (wd_Web : PySem.W.hasDictIn K C_Web = true)
    (wo_Web : PySem.W.plainOver K C_Web = true)
    (ws_Web : PySem.W.findIn K (.ref C_Web) "__setattr__" = some (some (.builtin "object.__setattr__")))
    (wc_Web : PySem.W.findIn K (.ref C_Web) "__class__" = some (some (.builtin "object.__class__")))
    (wg_Web : PySem.W.specialIn K (.builtin "object.__class__") "__get__" = some (some (.builtin "getset_descriptor.__get__")))
    (wt_Web : PySem.W.takesIn K (.builtin "object.__class__") = some true)
    (wr_Web : PySem.W.mroIn K C_Web (.type "object") = some true)
    (wint_Web : PySem.W.subIn K (.ref C_Web) (.type "int") = some false)
    (wbool_Web : PySem.W.subIn K (.ref C_Web) (.type "bool") = some false)
    (wstr_Web : PySem.W.subIn K (.ref C_Web) (.type "str") = some false)
    (wtuple_Web : PySem.W.subIn K (.ref C_Web) (.type "tuple") = some false)
    (wlist_Web : PySem.W.subIn K (.ref C_Web) (.type "list") = some false)
    (ocn_Book : PySem.W.findIn K (.ref C_Book) "__ne__" = some (some (.builtin "object.__ne__")))
    (ocf_Book : PySem.W.isFn K (.ref f_Book__eq__) = true)
    (ocn_Web : PySem.W.findIn K (.ref C_Web) "__ne__" = some (some (.builtin "object.__ne__")))
    (ocf_Web : PySem.W.isFn K (.ref f_Web__eq__) = true)
    (na_Book_kinds : PySem.W.findIn K (.ref C_Book) "kinds" = some none)
    (na_Book_sorts : PySem.W.findIn K (.ref C_Book) "sorts" = some none)
    (na_Web_pipes : PySem.W.findIn K (.ref C_Web) "pipes" = some none)
    (na_Web_widths : PySem.W.findIn K (.ref C_Web) "widths" = some none)
    (z_abs : PySem.W.nsIn K mainGlobals "abs" = some none)
    (z_all : PySem.W.nsIn K mainGlobals "all" = some none)
    (z_bool : PySem.W.nsIn K mainGlobals "bool" = some none)
    (z_enumerate : PySem.W.nsIn K mainGlobals "enumerate" = some none)
    (z_int : PySem.W.nsIn K mainGlobals "int" = some none)
    (z_isinstance : PySem.W.nsIn K mainGlobals "isinstance" = some none)
    (z_len : PySem.W.nsIn K mainGlobals "len" = some none)
    (z_list : PySem.W.nsIn K mainGlobals "list" = some none)
    (z_range : PySem.W.nsIn K mainGlobals "range" = some none)
    (z_sorted : PySem.W.nsIn K mainGlobals "sorted" = some none)
    (z_str : PySem.W.nsIn K mainGlobals "str" = some none)
    (z_tuple : PySem.W.nsIn K mainGlobals "tuple" = some none)
    (z_zip : PySem.W.nsIn K mainGlobals "zip" = some none)
    (n_MOST_BOTTOM : PySem.W.nsIn K mainGlobals "MOST_BOTTOM" = some (some (.int 144 t_MOST_BOTTOM)))
    (n_MOST_CAP : PySem.W.nsIn K mainGlobals "MOST_CAP" = some (some (.int 6 t_MOST_CAP)))
    (n_MOST_KINDS : PySem.W.nsIn K mainGlobals "MOST_KINDS" = some (some (.int 5 t_MOST_KINDS)))
    (n_MOST_PIPES : PySem.W.nsIn K mainGlobals "MOST_PIPES" = some (some (.int 36 t_MOST_PIPES)))
    (n_MOST_SORTS : PySem.W.nsIn K mainGlobals "MOST_SORTS" = some (some (.int 4 t_MOST_SORTS)))
    (n_MOST_THRESHOLDS : PySem.W.nsIn K mainGlobals "MOST_THRESHOLDS" = some (some (.int 6 t_MOST_THRESHOLDS)))
    (n_MOST_TOP : PySem.W.nsIn K mainGlobals "MOST_TOP" = some (some (.int 1000000 t_MOST_TOP)))
    (n_MOST_VESSELS : PySem.W.nsIn K mainGlobals "MOST_VESSELS" = some (some (.int 12 t_MOST_VESSELS)))
    (n_MOST_WIDTH : PySem.W.nsIn K mainGlobals "MOST_WIDTH" = some (some (.int 12 t_MOST_WIDTH)))
    (m_gcd : PySem.W.nsIn K mainGlobals "gcd" = some (some (.builtin "math.gcd")))
    (ci_Web : PySem.W.isClsIn K C_Web = true)
    (cy_Web : PySem.W.typeIn K (.ref C_Web) = some (.type "type"))
    (cs_Web : PySem.W.subIn K (.ref C_Web) (.ref C_Web) = some true)
    (wNoneType_Web : PySem.W.subIn K (.ref C_Web) (.type "NoneType") = some false)
    (wdict_Web : PySem.W.subIn K (.ref C_Web) (.type "dict") = some false)
    (ci_Book : PySem.W.isClsIn K C_Book = true)
    (cy_Book : PySem.W.typeIn K (.ref C_Book) = some (.type "type"))
    (cs_Book : PySem.W.subIn K (.ref C_Book) (.ref C_Book) = some true)
    (wNoneType_Book : PySem.W.subIn K (.ref C_Book) (.type "NoneType") = some false)
    (wdict_Book : PySem.W.subIn K (.ref C_Book) (.type "dict") = some false)
    (cn_WB : PySem.W.subIn K (.ref C_Web) (.ref C_Book) = some false)
    (cn_BW : PySem.W.subIn K (.ref C_Book) (.ref C_Web) = some false)
    (ne_WB : (Value.ref C_Web == Value.ref C_Book) = false)
    (ne_BW : (Value.ref C_Book == Value.ref C_Web) = false)
    (nf_W : PySem.W.notFirst K C_Web (.ref C_Book) = true)
    (nf_B : PySem.W.notFirst K C_Book (.ref C_Web) = true)
    (a_law : PySem.W.nsIn K mainGlobals "law" = some (some (.ref f_law)))
    (l_law : K.lookup f_law = some ⟨oc_law, od_law, .func (PySem.W.fnOf "law" "law" (defArgs s_law) (defBody s_law) (defScope s_law) .none kV_law dc_law pm_law an_law cd_law ct_law), sl_law⟩)
    (c_law : PySem.W.codeIn K cd_law "law" = true) : LamX.LawAtS l w K (L2.CX l.prog w) 8 63 "script" mg fa h := by
  have e := hfa.symm.trans (PySem.W.mg_of X G a_law)
  cases e
  have F_is_integer := fun_mk (st := s_is_integer) l_is_integer c_is_integer k_is_integer
  have F_is_between := fun_mk (st := s_is_between) l_is_between c_is_between k_is_between
  have F_is_tuple_of := fun_mk (st := s_is_tuple_of) l_is_tuple_of c_is_tuple_of k_is_tuple_of
  have F_is_fraction := fun_mk (st := s_is_fraction) l_is_fraction c_is_fraction k_is_fraction
  have F_at_most := fun_mk (st := s_at_most) l_at_most c_at_most k_at_most
  have F_is_threshold := fun_mk (st := s_is_threshold) l_is_threshold c_is_threshold k_is_threshold
  have F_is_list := fun_mk (st := s_is_list) l_is_list c_is_list k_is_list
  have F_ascends := fun_mk (st := s_ascends) l_ascends c_ascends k_ascends
  have F_is_width := fun_mk (st := s_is_width) l_is_width c_is_width k_is_width
  have F_is_widths := fun_mk (st := s_is_widths) l_is_widths c_is_widths k_is_widths
  have F_is_pipe := fun_mk (st := s_is_pipe) l_is_pipe c_is_pipe k_is_pipe
  have F_Web__init__ := fun_mk (st := s_Web__init__) l_Web__init__ c_Web__init__ k_Web__init__
  have F_Web__eq__ := fun_mk (st := s_Web__eq__) l_Web__eq__ c_Web__eq__ k_Web__eq__
  have F_is_sort := fun_mk (st := s_is_sort) l_is_sort c_is_sort k_is_sort
  have F_is_sort_tuple := fun_mk (st := s_is_sort_tuple) l_is_sort_tuple c_is_sort_tuple k_is_sort_tuple
  have F_is_join := fun_mk (st := s_is_join) l_is_join c_is_join k_is_join
  have F_is_kind := fun_mk (st := s_is_kind) l_is_kind c_is_kind k_is_kind
  have F_Book__init__ := fun_mk (st := s_Book__init__) l_Book__init__ c_Book__init__ k_Book__init__
  have F_Book__eq__ := fun_mk (st := s_Book__eq__) l_Book__eq__ c_Book__eq__ k_Book__eq__
  have F__law_source := fun_mk (st := s__law_source) l__law_source c__law_source k__law_source
  have F__law_mixed := fun_mk (st := s__law_mixed) l__law_mixed c__law_mixed k__law_mixed
  have F__law_draw := fun_mk (st := s__law_draw) l__law_draw c__law_draw k__law_draw
  have F__law_pick := fun_mk (st := s__law_pick) l__law_pick c__law_pick k__law_pick
  have F__law_divisor := fun_mk (st := s__law_divisor) l__law_divisor c__law_divisor k__law_divisor
  have F__law_made := fun_mk (st := s__law_made) l__law_made c__law_made k__law_made
  have F__law_same := fun_mk (st := s__law_same) l__law_same c__law_same k__law_same
  have F__law_in_order := fun_mk (st := s__law_in_order) l__law_in_order c__law_in_order k__law_in_order
  have F__law_steps := fun_mk (st := s__law_steps) l__law_steps c__law_steps k__law_steps
  have F__law_widths := fun_mk (st := s__law_widths) l__law_widths c__law_widths k__law_widths
  have F__law_pipe := fun_mk (st := s__law_pipe) l__law_pipe c__law_pipe k__law_pipe
  have F__law_pipes := fun_mk (st := s__law_pipes) l__law_pipes c__law_pipes k__law_pipes
  have F__law_with := fun_mk (st := s__law_with) l__law_with c__law_with k__law_with
  have F__law_joins := fun_mk (st := s__law_joins) l__law_joins c__law_joins k__law_joins
  have F__law_book := fun_mk (st := s__law_book) l__law_book c__law_book k__law_book
  have F__law_other_web := fun_mk (st := s__law_other_web) l__law_other_web c__law_other_web k__law_other_web
  have F__law_other_book := fun_mk (st := s__law_other_book) l__law_other_book c__law_other_book k__law_other_book
  have F__law_alike := fun_mk (st := s__law_alike) l__law_alike c__law_alike k__law_alike
  have F_BadBook__init__ := fun_mk (st := sx_BadBook) l_BadBook__init__ c_BadBook__init__ k_BadBook__init__
  have oxf_BadBook : L2.XfC K C_BadBook := ⟨xga_BadBook, xgg_BadBook, xs_BadBook, xhd_BadBook⟩
  have F_BadWeb__init__ := fun_mk (st := sx_BadWeb) l_BadWeb__init__ c_BadWeb__init__ k_BadWeb__init__
  have oxf_BadWeb : L2.XfC K C_BadWeb := ⟨xga_BadWeb, xgg_BadWeb, xs_BadWeb, xhd_BadWeb⟩
  have okw_Book : OkD K (.oth (.ref C_Book)) := by
    unfold OkD
    intro n hn
    have five : n = "int" ∨ n = "bool" ∨ n = "str" ∨ n = "tuple" ∨ n = "list" := by simpa [kinds] using hn
    rcases five with rfl | rfl | rfl | rfl | rfl
    · exact kit_bt (by decide +kernel) wint_Book
    · exact kit_bt (by decide +kernel) wbool_Book
    · exact kit_bt (by decide +kernel) wstr_Book
    · exact kit_bt (by decide +kernel) wtuple_Book
    · exact kit_bt (by decide +kernel) wlist_Book
  have okw_Web : OkD K (.oth (.ref C_Web)) := by
    unfold OkD
    intro n hn
    have five : n = "int" ∨ n = "bool" ∨ n = "str" ∨ n = "tuple" ∨ n = "list" := by simpa [kinds] using hn
    rcases five with rfl | rfl | rfl | rfl | rfl
    · exact kit_bt (by decide +kernel) wint_Web
    · exact kit_bt (by decide +kernel) wbool_Web
    · exact kit_bt (by decide +kernel) wstr_Web
    · exact kit_bt (by decide +kernel) wtuple_Web
    · exact kit_bt (by decide +kernel) wlist_Web
  let T : Txt K mg := {
    f_is_integer := f_is_integer
    fd_is_integer := _
    F_is_integer := F_is_integer
    b_is_integer := F_is_integer.binds (ps := ["thing"]) fun _ _ _ _ _ _ us hl => match us, hl with | [_], _ => rfl
    g_is_integer := PySem.W.mg_of X G a_is_integer
    k_is_integer := k_is_integer
    f_is_between := f_is_between
    fd_is_between := _
    F_is_between := F_is_between
    b_is_between := F_is_between.binds (ps := ["low", "high", "thing"]) fun _ _ _ _ _ _ us hl => match us, hl with | [_, _, _], _ => rfl
    g_is_between := PySem.W.mg_of X G a_is_between
    k_is_between := k_is_between
    f_is_tuple_of := f_is_tuple_of
    fd_is_tuple_of := _
    F_is_tuple_of := F_is_tuple_of
    b_is_tuple_of := F_is_tuple_of.binds (ps := ["low", "high", "thing"]) fun _ _ _ _ _ _ us hl => match us, hl with | [_, _, _], _ => rfl
    g_is_tuple_of := PySem.W.mg_of X G a_is_tuple_of
    k_is_tuple_of := k_is_tuple_of
    f_is_fraction := f_is_fraction
    fd_is_fraction := _
    F_is_fraction := F_is_fraction
    b_is_fraction := F_is_fraction.binds (ps := ["thing"]) fun _ _ _ _ _ _ us hl => match us, hl with | [_], _ => rfl
    g_is_fraction := PySem.W.mg_of X G a_is_fraction
    k_is_fraction := k_is_fraction
    f_at_most := f_at_most
    fd_at_most := _
    F_at_most := F_at_most
    b_at_most := F_at_most.binds (ps := ["one", "other"]) fun _ _ _ _ _ _ us hl => match us, hl with | [_, _], _ => rfl
    g_at_most := PySem.W.mg_of X G a_at_most
    k_at_most := k_at_most
    f_is_threshold := f_is_threshold
    fd_is_threshold := _
    F_is_threshold := F_is_threshold
    b_is_threshold := F_is_threshold.binds (ps := ["thing"]) fun _ _ _ _ _ _ us hl => match us, hl with | [_], _ => rfl
    g_is_threshold := PySem.W.mg_of X G a_is_threshold
    k_is_threshold := k_is_threshold
    f_is_list := f_is_list
    fd_is_list := _
    F_is_list := F_is_list
    b_is_list := F_is_list.binds (ps := ["thing"]) fun _ _ _ _ _ _ us hl => match us, hl with | [_], _ => rfl
    g_is_list := PySem.W.mg_of X G a_is_list
    k_is_list := k_is_list
    f_ascends := f_ascends
    fd_ascends := _
    F_ascends := F_ascends
    b_ascends := F_ascends.binds (ps := ["things"]) fun _ _ _ _ _ _ us hl => match us, hl with | [_], _ => rfl
    g_ascends := PySem.W.mg_of X G a_ascends
    k_ascends := k_ascends
    f_is_width := f_is_width
    fd_is_width := _
    F_is_width := F_is_width
    b_is_width := F_is_width.binds (ps := ["thing"]) fun _ _ _ _ _ _ us hl => match us, hl with | [_], _ => rfl
    g_is_width := PySem.W.mg_of X G a_is_width
    k_is_width := k_is_width
    f_is_widths := f_is_widths
    fd_is_widths := _
    F_is_widths := F_is_widths
    b_is_widths := F_is_widths.binds (ps := ["thing"]) fun _ _ _ _ _ _ us hl => match us, hl with | [_], _ => rfl
    g_is_widths := PySem.W.mg_of X G a_is_widths
    k_is_widths := k_is_widths
    f_is_pipe := f_is_pipe
    fd_is_pipe := _
    F_is_pipe := F_is_pipe
    b_is_pipe := F_is_pipe.binds (ps := ["vessels", "thing"]) fun _ _ _ _ _ _ us hl => match us, hl with | [_, _], _ => rfl
    g_is_pipe := PySem.W.mg_of X G a_is_pipe
    k_is_pipe := k_is_pipe
    f_Web__init__ := f_Web__init__
    fd_Web__init__ := _
    F_Web__init__ := F_Web__init__
    b_Web__init__ := F_Web__init__.binds (ps := ["self", "widths", "pipes"]) fun _ _ _ _ _ _ us hl => match us, hl with | [_, _, _], _ => rfl
    f_Web__eq__ := f_Web__eq__
    fd_Web__eq__ := _
    F_Web__eq__ := F_Web__eq__
    b_Web__eq__ := F_Web__eq__.binds (ps := ["self", "other"]) fun _ _ _ _ _ _ us hl => match us, hl with | [_, _], _ => rfl
    f_is_sort := f_is_sort
    fd_is_sort := _
    F_is_sort := F_is_sort
    b_is_sort := F_is_sort.binds (ps := ["thing"]) fun _ _ _ _ _ _ us hl => match us, hl with | [_], _ => rfl
    g_is_sort := PySem.W.mg_of X G a_is_sort
    k_is_sort := k_is_sort
    f_is_sort_tuple := f_is_sort_tuple
    fd_is_sort_tuple := _
    F_is_sort_tuple := F_is_sort_tuple
    b_is_sort_tuple := F_is_sort_tuple.binds (ps := ["thing"]) fun _ _ _ _ _ _ us hl => match us, hl with | [_], _ => rfl
    g_is_sort_tuple := PySem.W.mg_of X G a_is_sort_tuple
    k_is_sort_tuple := k_is_sort_tuple
    f_is_join := f_is_join
    fd_is_join := _
    F_is_join := F_is_join
    b_is_join := F_is_join.binds (ps := ["sorts", "thing"]) fun _ _ _ _ _ _ us hl => match us, hl with | [_, _], _ => rfl
    g_is_join := PySem.W.mg_of X G a_is_join
    k_is_join := k_is_join
    f_is_kind := f_is_kind
    fd_is_kind := _
    F_is_kind := F_is_kind
    b_is_kind := F_is_kind.binds (ps := ["sorts", "thing"]) fun _ _ _ _ _ _ us hl => match us, hl with | [_, _], _ => rfl
    g_is_kind := PySem.W.mg_of X G a_is_kind
    k_is_kind := k_is_kind
    f_Book__init__ := f_Book__init__
    fd_Book__init__ := _
    F_Book__init__ := F_Book__init__
    b_Book__init__ := F_Book__init__.binds (ps := ["self", "sorts", "kinds"]) fun _ _ _ _ _ _ us hl => match us, hl with | [_, _, _], _ => rfl
    f_Book__eq__ := f_Book__eq__
    fd_Book__eq__ := _
    F_Book__eq__ := F_Book__eq__
    b_Book__eq__ := F_Book__eq__.binds (ps := ["self", "other"]) fun _ _ _ _ _ _ us hl => match us, hl with | [_, _], _ => rfl
    f__law_source := f__law_source
    fd__law_source := _
    F__law_source := F__law_source
    b__law_source := F__law_source.binds (ps := ["script"]) fun _ _ _ _ _ _ us hl => match us, hl with | [_], _ => rfl
    g__law_source := PySem.W.mg_of X G a__law_source
    k__law_source := k__law_source
    f__law_mixed := f__law_mixed
    fd__law_mixed := _
    F__law_mixed := F__law_mixed
    b__law_mixed := F__law_mixed.binds (ps := ["number", "turn"]) fun _ _ _ _ _ _ us hl => match us, hl with | [_, _], _ => rfl
    g__law_mixed := PySem.W.mg_of X G a__law_mixed
    k__law_mixed := k__law_mixed
    f__law_draw := f__law_draw
    fd__law_draw := _
    F__law_draw := F__law_draw
    b__law_draw := F__law_draw.binds (ps := ["source", "many"]) fun _ _ _ _ _ _ us hl => match us, hl with | [_, _], _ => rfl
    g__law_draw := PySem.W.mg_of X G a__law_draw
    k__law_draw := k__law_draw
    f__law_pick := f__law_pick
    fd__law_pick := _
    F__law_pick := F__law_pick
    b__law_pick := F__law_pick.binds (ps := ["source", "row"]) fun _ _ _ _ _ _ us hl => match us, hl with | [_, _], _ => rfl
    g__law_pick := PySem.W.mg_of X G a__law_pick
    k__law_pick := k__law_pick
    f__law_divisor := f__law_divisor
    fd__law_divisor := _
    F__law_divisor := F__law_divisor
    b__law_divisor := F__law_divisor.binds (ps := ["one", "other"]) fun _ _ _ _ _ _ us hl => match us, hl with | [_, _], _ => rfl
    g__law_divisor := PySem.W.mg_of X G a__law_divisor
    k__law_divisor := k__law_divisor
    f__law_made := f__law_made
    fd__law_made := _
    F__law_made := F__law_made
    b__law_made := F__law_made.binds (ps := ["top", "bottom"]) fun _ _ _ _ _ _ us hl => match us, hl with | [_, _], _ => rfl
    g__law_made := PySem.W.mg_of X G a__law_made
    k__law_made := k__law_made
    f__law_same := f__law_same
    fd__law_same := _
    F__law_same := F__law_same
    b__law_same := F__law_same.binds (ps := ["actual", "expected"]) fun _ _ _ _ _ _ us hl => match us, hl with | [_, _], _ => rfl
    g__law_same := PySem.W.mg_of X G a__law_same
    k__law_same := k__law_same
    f__law_in_order := f__law_in_order
    fd__law_in_order := _
    F__law_in_order := F__law_in_order
    b__law_in_order := F__law_in_order.binds (ps := ["steps"]) fun _ _ _ _ _ _ us hl => match us, hl with | [_], _ => rfl
    g__law_in_order := PySem.W.mg_of X G a__law_in_order
    k__law_in_order := k__law_in_order
    f__law_steps := f__law_steps
    fd__law_steps := _
    F__law_steps := F__law_steps
    b__law_steps := F__law_steps.binds (ps := ["source", "most", "wide"]) fun _ _ _ _ _ _ us hl => match us, hl with | [_, _, _], _ => rfl
    g__law_steps := PySem.W.mg_of X G a__law_steps
    k__law_steps := k__law_steps
    f__law_widths := f__law_widths
    fd__law_widths := _
    F__law_widths := F__law_widths
    b__law_widths := F__law_widths.binds (ps := ["source", "many", "seas"]) fun _ _ _ _ _ _ us hl => match us, hl with | [_, _, _], _ => rfl
    g__law_widths := PySem.W.mg_of X G a__law_widths
    k__law_widths := k__law_widths
    f__law_pipe := f__law_pipe
    fd__law_pipe := _
    F__law_pipe := F__law_pipe
    b__law_pipe := F__law_pipe.binds (ps := ["source", "vessels", "most", "wide"]) fun _ _ _ _ _ _ us hl => match us, hl with | [_, _, _, _], _ => rfl
    g__law_pipe := PySem.W.mg_of X G a__law_pipe
    k__law_pipe := k__law_pipe
    f__law_pipes := f__law_pipes
    fd__law_pipes := _
    F__law_pipes := F__law_pipes
    b__law_pipes := F__law_pipes.binds (ps := ["source", "vessels", "many", "most", "wide"]) fun _ _ _ _ _ _ us hl => match us, hl with | [_, _, _, _, _], _ => rfl
    g__law_pipes := PySem.W.mg_of X G a__law_pipes
    k__law_pipes := k__law_pipes
    f__law_with := f__law_with
    fd__law_with := _
    F__law_with := F__law_with
    b__law_with := F__law_with.binds (ps := ["row", "place", "thing"]) fun _ _ _ _ _ _ us hl => match us, hl with | [_, _, _], _ => rfl
    g__law_with := PySem.W.mg_of X G a__law_with
    k__law_with := k__law_with
    f__law_joins := f__law_joins
    fd__law_joins := _
    F__law_joins := F__law_joins
    b__law_joins := F__law_joins.binds (ps := ["source", "sorts"]) fun _ _ _ _ _ _ us hl => match us, hl with | [_, _], _ => rfl
    g__law_joins := PySem.W.mg_of X G a__law_joins
    k__law_joins := k__law_joins
    f__law_book := f__law_book
    fd__law_book := _
    F__law_book := F__law_book
    b__law_book := F__law_book.binds (ps := ["source"]) fun _ _ _ _ _ _ us hl => match us, hl with | [_], _ => rfl
    g__law_book := PySem.W.mg_of X G a__law_book
    k__law_book := k__law_book
    f__law_other_web := f__law_other_web
    fd__law_other_web := _
    F__law_other_web := F__law_other_web
    b__law_other_web := F__law_other_web.binds (ps := ["source", "widths", "pipes"]) fun _ _ _ _ _ _ us hl => match us, hl with | [_, _, _], _ => rfl
    g__law_other_web := PySem.W.mg_of X G a__law_other_web
    k__law_other_web := k__law_other_web
    f__law_other_book := f__law_other_book
    fd__law_other_book := _
    F__law_other_book := F__law_other_book
    b__law_other_book := F__law_other_book.binds (ps := ["source", "sorts", "kinds"]) fun _ _ _ _ _ _ us hl => match us, hl with | [_, _, _], _ => rfl
    g__law_other_book := PySem.W.mg_of X G a__law_other_book
    k__law_other_book := k__law_other_book
    f__law_alike := f__law_alike
    fd__law_alike := _
    F__law_alike := F__law_alike
    b__law_alike := F__law_alike.binds (ps := ["one", "other", "due"]) fun _ _ _ _ _ _ us hl => match us, hl with | [_, _, _], _ => rfl
    g__law_alike := PySem.W.mg_of X G a__law_alike
    k__law_alike := k__law_alike
    Z := ⟨C_Book, C_Web, C_TidesError, C_BadBook, C_BadWeb⟩
    fi_BadBook := f_BadBook__init__
    fdx_BadBook := _
    Fx_BadBook := F_BadBook__init__
    bx_BadBook := F_BadBook__init__.binds (ps := ["self", "part"]) fun _ _ _ _ _ _ us hl => match us, hl with | [_, _], _ => rfl
    gx_BadBook := PySem.W.mg_of X G aC_BadBook
    ox_BadBook := ⟨⟨_, _, _, _, _, _, _, _, _, _, _, _, _, _, _, xL_BadBook, xr_BadBook⟩, xsa_BadBook, xs_BadBook, xy_BadBook, xk_BadBook⟩
    xi_BadBook := xi_BadBook
    xt_BadBook := xt_BadBook
    no_BadBook := no_BadBook
    xf_BadBook := oxf_BadBook
    fi_BadWeb := f_BadWeb__init__
    fdx_BadWeb := _
    Fx_BadWeb := F_BadWeb__init__
    bx_BadWeb := F_BadWeb__init__.binds (ps := ["self", "part"]) fun _ _ _ _ _ _ us hl => match us, hl with | [_, _], _ => rfl
    gx_BadWeb := PySem.W.mg_of X G aC_BadWeb
    ox_BadWeb := ⟨⟨_, _, _, _, _, _, _, _, _, _, _, _, _, _, _, xL_BadWeb, xr_BadWeb⟩, xsa_BadWeb, xs_BadWeb, xy_BadWeb, xk_BadWeb⟩
    xi_BadWeb := xi_BadWeb
    xt_BadWeb := xt_BadWeb
    no_BadWeb := no_BadWeb
    xf_BadWeb := oxf_BadWeb
    cm_Book := ⟨wm_Book, a_Book__init__, wf_Book, wk_Book⟩
    gc_Book := PySem.W.mg_of X G aC_Book
    it_Book := ⟨⟨wp_Book, wd_Book, wo_Book, ws_Book⟩, wc_Book, wg_Book, wt_Book, wr_Book⟩
    ok_Book := okw_Book
    cm_Web := ⟨wm_Web, a_Web__init__, wf_Web, wk_Web⟩
    gc_Web := PySem.W.mg_of X G aC_Web
    it_Web := ⟨⟨wp_Web, wd_Web, wo_Web, ws_Web⟩, wc_Web, wg_Web, wt_Web, wr_Web⟩
    ok_Web := okw_Web
    oc_Book := ⟨a_Book__eq__, ocn_Book, ocf_Book, wr_Book⟩
    oc_Web := ⟨a_Web__eq__, ocn_Web, ocf_Web, wr_Web⟩
    gc_TidesError := PySem.W.mg_of X G aC_TidesError
    na_Book_kinds := na_Book_kinds
    na_Book_sorts := na_Book_sorts
    na_Web_pipes := na_Web_pipes
    na_Web_widths := na_Web_widths
    z_abs := PySem.W.mg_none_of X G z_abs
    z_all := PySem.W.mg_none_of X G z_all
    z_bool := PySem.W.mg_none_of X G z_bool
    z_enumerate := PySem.W.mg_none_of X G z_enumerate
    z_int := PySem.W.mg_none_of X G z_int
    z_isinstance := PySem.W.mg_none_of X G z_isinstance
    z_len := PySem.W.mg_none_of X G z_len
    z_list := PySem.W.mg_none_of X G z_list
    z_range := PySem.W.mg_none_of X G z_range
    z_sorted := PySem.W.mg_none_of X G z_sorted
    z_str := PySem.W.mg_none_of X G z_str
    z_tuple := PySem.W.mg_none_of X G z_tuple
    z_zip := PySem.W.mg_none_of X G z_zip
    t_MOST_BOTTOM := t_MOST_BOTTOM
    c_MOST_BOTTOM := PySem.W.mg_of X G n_MOST_BOTTOM
    t_MOST_CAP := t_MOST_CAP
    c_MOST_CAP := PySem.W.mg_of X G n_MOST_CAP
    t_MOST_KINDS := t_MOST_KINDS
    c_MOST_KINDS := PySem.W.mg_of X G n_MOST_KINDS
    t_MOST_PIPES := t_MOST_PIPES
    c_MOST_PIPES := PySem.W.mg_of X G n_MOST_PIPES
    t_MOST_SORTS := t_MOST_SORTS
    c_MOST_SORTS := PySem.W.mg_of X G n_MOST_SORTS
    t_MOST_THRESHOLDS := t_MOST_THRESHOLDS
    c_MOST_THRESHOLDS := PySem.W.mg_of X G n_MOST_THRESHOLDS
    t_MOST_TOP := t_MOST_TOP
    c_MOST_TOP := PySem.W.mg_of X G n_MOST_TOP
    t_MOST_VESSELS := t_MOST_VESSELS
    c_MOST_VESSELS := PySem.W.mg_of X G n_MOST_VESSELS
    t_MOST_WIDTH := t_MOST_WIDTH
    c_MOST_WIDTH := PySem.W.mg_of X G n_MOST_WIDTH
    m_gcd := PySem.W.mg_of X G m_gcd }
  have LF : LawF K T.Z := ⟨⟨kb_of (TB := ⟨[]⟩) ci_Web cy_Web, kit_rt ci_Web cy_Web cs_Web, kit_rf ne_BW ci_Web cy_Web cn_BW, ⟨⟨wp_Web, wd_Web, wo_Web, ws_Web⟩, wc_Web, wg_Web, wt_Web, wr_Web⟩, ⟨⟨wp_Book, wd_Book, wo_Book, ws_Book⟩, wc_Book, wg_Book, wt_Book, wr_Book⟩⟩, ⟨kb_of (TB := ⟨[]⟩) ci_Book cy_Book, kit_rt ci_Book cy_Book cs_Book, kit_rf ne_WB ci_Book cy_Book cn_WB, ⟨⟨wp_Book, wd_Book, wo_Book, ws_Book⟩, wc_Book, wg_Book, wt_Book, wr_Book⟩, ⟨⟨wp_Web, wd_Web, wo_Web, ws_Web⟩, wc_Web, wg_Web, wt_Web, wr_Web⟩⟩, ns_of (TB := ⟨[]⟩) wNoneType_Web wbool_Web wint_Web wstr_Web wtuple_Web wlist_Web wdict_Web, ns_of (TB := ⟨[]⟩) wNoneType_Book wbool_Book wint_Book wstr_Book wtuple_Book wlist_Book wdict_Book, nf_W, nf_B⟩
  exact law_at T LF l_law c_law
end
end K04
open PySem PySem.W PyProof.Rows
set_option maxRecDepth 100000 in
set_option maxHeartbeats 0 in
theorem PySem.Challenge.cw_twotides_k04_whole_equal_webs_and_books_holds : PySem.Challenge.rw_twotides_k04_whole_equal_webs_and_books.Holds := by
  w_on; o_law; k_head; (case hw => w_witness2)
  k_fill
  refine LamX.walk_ofTs (l := PySem.Challenge.rw_twotides_k04_whole_equal_webs_and_books) (n := 63) (k := 8) (x := "script") (CX := fun w => L2.CX PySem.Challenge.rw_twotides_k04_whole_equal_webs_and_books.prog w) rfl (by decide) rfl ⟨rfl, by decide, by decide⟩ (fun w h Y => Y) ?F K04.cx_none
  case F =>
    intro w mg fa h Y KX G hmg
    refine' K04.all_mk (K := _) KX G hmg ?aC_Book ?aC_Web ?aC_TidesError ?aC_BadBook ?aC_BadWeb ?a_is_integer ?l_is_integer ?c_is_integer ?k_is_integer ?a_is_between ?l_is_between ?c_is_between ?k_is_between ?a_is_tuple_of ?l_is_tuple_of ?c_is_tuple_of ?k_is_tuple_of ?a_is_fraction ?l_is_fraction ?c_is_fraction ?k_is_fraction ?a_at_most ?l_at_most ?c_at_most ?k_at_most ?a_is_threshold ?l_is_threshold ?c_is_threshold ?k_is_threshold ?a_is_list ?l_is_list ?c_is_list ?k_is_list ?a_ascends ?l_ascends ?c_ascends ?k_ascends ?a_is_width ?l_is_width ?c_is_width ?k_is_width ?a_is_widths ?l_is_widths ?c_is_widths ?k_is_widths ?a_is_pipe ?l_is_pipe ?c_is_pipe ?k_is_pipe ?a_Web__init__ ?l_Web__init__ ?c_Web__init__ ?k_Web__init__ ?a_Web__eq__ ?l_Web__eq__ ?c_Web__eq__ ?k_Web__eq__ ?a_is_sort ?l_is_sort ?c_is_sort ?k_is_sort ?a_is_sort_tuple ?l_is_sort_tuple ?c_is_sort_tuple ?k_is_sort_tuple ?a_is_join ?l_is_join ?c_is_join ?k_is_join ?a_is_kind ?l_is_kind ?c_is_kind ?k_is_kind ?a_Book__init__ ?l_Book__init__ ?c_Book__init__ ?k_Book__init__ ?a_Book__eq__ ?l_Book__eq__ ?c_Book__eq__ ?k_Book__eq__ ?a__law_source ?l__law_source ?c__law_source ?k__law_source ?a__law_mixed ?l__law_mixed ?c__law_mixed ?k__law_mixed ?a__law_draw ?l__law_draw ?c__law_draw ?k__law_draw ?a__law_pick ?l__law_pick ?c__law_pick ?k__law_pick ?a__law_divisor ?l__law_divisor ?c__law_divisor ?k__law_divisor ?a__law_made ?l__law_made ?c__law_made ?k__law_made ?a__law_same ?l__law_same ?c__law_same ?k__law_same ?a__law_in_order ?l__law_in_order ?c__law_in_order ?k__law_in_order ?a__law_steps ?l__law_steps ?c__law_steps ?k__law_steps ?a__law_widths ?l__law_widths ?c__law_widths ?k__law_widths ?a__law_pipe ?l__law_pipe ?c__law_pipe ?k__law_pipe ?a__law_pipes ?l__law_pipes ?c__law_pipes ?k__law_pipes ?a__law_with ?l__law_with ?c__law_with ?k__law_with ?a__law_joins ?l__law_joins ?c__law_joins ?k__law_joins ?a__law_book ?l__law_book ?c__law_book ?k__law_book ?a__law_other_web ?l__law_other_web ?c__law_other_web ?k__law_other_web ?a__law_other_book ?l__law_other_book ?c__law_other_book ?k__law_other_book ?a__law_alike ?l__law_alike ?c__law_alike ?k__law_alike ?xL_BadBook ?xr_BadBook ?xi_BadBook ?l_BadBook__init__ ?c_BadBook__init__ ?k_BadBook__init__ ?xt_BadBook ?xk_BadBook ?xs_BadBook ?xy_BadBook ?xsa_BadBook ?xga_BadBook ?xgg_BadBook ?xhd_BadBook ?no_BadBook ?xL_BadWeb ?xr_BadWeb ?xi_BadWeb ?l_BadWeb__init__ ?c_BadWeb__init__ ?k_BadWeb__init__ ?xt_BadWeb ?xk_BadWeb ?xs_BadWeb ?xy_BadWeb ?xsa_BadWeb ?xga_BadWeb ?xgg_BadWeb ?xhd_BadWeb ?no_BadWeb ?wm_Book ?wf_Book ?wk_Book ?wp_Book ?wd_Book ?wo_Book ?ws_Book ?wc_Book ?wg_Book ?wt_Book ?wr_Book ?wint_Book ?wbool_Book ?wstr_Book ?wtuple_Book ?wlist_Book ?wm_Web ?wf_Web ?wk_Web ?wp_Web ?wd_Web ?wo_Web ?ws_Web ?wc_Web ?wg_Web ?wt_Web ?wr_Web ?wint_Web ?wbool_Web ?wstr_Web ?wtuple_Web ?wlist_Web ?ocn_Book ?ocf_Book ?ocn_Web ?ocf_Web ?na_Book_kinds ?na_Book_sorts ?na_Web_pipes ?na_Web_widths ?z_abs ?z_all ?z_bool ?z_enumerate ?z_int ?z_isinstance ?z_len ?z_list ?z_range ?z_sorted ?z_str ?z_tuple ?z_zip ?n_MOST_BOTTOM ?n_MOST_CAP ?n_MOST_KINDS ?n_MOST_PIPES ?n_MOST_SORTS ?n_MOST_THRESHOLDS ?n_MOST_TOP ?n_MOST_VESSELS ?n_MOST_WIDTH ?m_gcd ?ci_Web ?cy_Web ?cs_Web ?wNoneType_Web ?wdict_Web ?ci_Book ?cy_Book ?cs_Book ?wNoneType_Book ?wdict_Book ?cn_WB ?cn_BW ?ne_WB ?ne_BW ?nf_W ?nf_B ?a_law ?l_law ?c_law
    (case aC_Book => k_is)
    (case aC_Web => k_is)
    (case aC_TidesError => k_is)
    (case aC_BadBook => k_is)
    (case aC_BadWeb => k_is)
    (case a_is_integer => k_is)
    (case l_is_integer => k_is)
    (case c_is_integer => k_is)
    (case k_is_integer => k_is)
    (case a_is_between => k_is)
    (case l_is_between => k_is)
    (case c_is_between => k_is)
    (case k_is_between => k_is)
    (case a_is_tuple_of => k_is)
    (case l_is_tuple_of => k_is)
    (case c_is_tuple_of => k_is)
    (case k_is_tuple_of => k_is)
    (case a_is_fraction => k_is)
    (case l_is_fraction => k_is)
    (case c_is_fraction => k_is)
    (case k_is_fraction => k_is)
    (case a_at_most => k_is)
    (case l_at_most => k_is)
    (case c_at_most => k_is)
    (case k_at_most => k_is)
    (case a_is_threshold => k_is)
    (case l_is_threshold => k_is)
    (case c_is_threshold => k_is)
    (case k_is_threshold => k_is)
    (case a_is_list => k_is)
    (case l_is_list => k_is)
    (case c_is_list => k_is)
    (case k_is_list => k_is)
    (case a_ascends => k_is)
    (case l_ascends => k_is)
    (case c_ascends => k_is)
    (case k_ascends => k_is)
    (case a_is_width => k_is)
    (case l_is_width => k_is)
    (case c_is_width => k_is)
    (case k_is_width => k_is)
    (case a_is_widths => k_is)
    (case l_is_widths => k_is)
    (case c_is_widths => k_is)
    (case k_is_widths => k_is)
    (case a_is_pipe => k_is)
    (case l_is_pipe => k_is)
    (case c_is_pipe => k_is)
    (case k_is_pipe => k_is)
    (case a_Web__init__ => k_is)
    (case l_Web__init__ => k_is)
    (case c_Web__init__ => k_is)
    (case k_Web__init__ => k_is)
    (case a_Web__eq__ => k_is)
    (case l_Web__eq__ => k_is)
    (case c_Web__eq__ => k_is)
    (case k_Web__eq__ => k_is)
    (case a_is_sort => k_is)
    (case l_is_sort => k_is)
    (case c_is_sort => k_is)
    (case k_is_sort => k_is)
    (case a_is_sort_tuple => k_is)
    (case l_is_sort_tuple => k_is)
    (case c_is_sort_tuple => k_is)
    (case k_is_sort_tuple => k_is)
    (case a_is_join => k_is)
    (case l_is_join => k_is)
    (case c_is_join => k_is)
    (case k_is_join => k_is)
    (case a_is_kind => k_is)
    (case l_is_kind => k_is)
    (case c_is_kind => k_is)
    (case k_is_kind => k_is)
    (case a_Book__init__ => k_is)
    (case l_Book__init__ => k_is)
    (case c_Book__init__ => k_is)
    (case k_Book__init__ => k_is)
    (case a_Book__eq__ => k_is)
    (case l_Book__eq__ => k_is)
    (case c_Book__eq__ => k_is)
    (case k_Book__eq__ => k_is)
    (case a__law_source => k_is)
    (case l__law_source => k_is)
    (case c__law_source => k_is)
    (case k__law_source => k_is)
    (case a__law_mixed => k_is)
    (case l__law_mixed => k_is)
    (case c__law_mixed => k_is)
    (case k__law_mixed => k_is)
    (case a__law_draw => k_is)
    (case l__law_draw => k_is)
    (case c__law_draw => k_is)
    (case k__law_draw => k_is)
    (case a__law_pick => k_is)
    (case l__law_pick => k_is)
    (case c__law_pick => k_is)
    (case k__law_pick => k_is)
    (case a__law_divisor => k_is)
    (case l__law_divisor => k_is)
    (case c__law_divisor => k_is)
    (case k__law_divisor => k_is)
    (case a__law_made => k_is)
    (case l__law_made => k_is)
    (case c__law_made => k_is)
    (case k__law_made => k_is)
    (case a__law_same => k_is)
    (case l__law_same => k_is)
    (case c__law_same => k_is)
    (case k__law_same => k_is)
    (case a__law_in_order => k_is)
    (case l__law_in_order => k_is)
    (case c__law_in_order => k_is)
    (case k__law_in_order => k_is)
    (case a__law_steps => k_is)
    (case l__law_steps => k_is)
    (case c__law_steps => k_is)
    (case k__law_steps => k_is)
    (case a__law_widths => k_is)
    (case l__law_widths => k_is)
    (case c__law_widths => k_is)
    (case k__law_widths => k_is)
    (case a__law_pipe => k_is)
    (case l__law_pipe => k_is)
    (case c__law_pipe => k_is)
    (case k__law_pipe => k_is)
    (case a__law_pipes => k_is)
    (case l__law_pipes => k_is)
    (case c__law_pipes => k_is)
    (case k__law_pipes => k_is)
    (case a__law_with => k_is)
    (case l__law_with => k_is)
    (case c__law_with => k_is)
    (case k__law_with => k_is)
    (case a__law_joins => k_is)
    (case l__law_joins => k_is)
    (case c__law_joins => k_is)
    (case k__law_joins => k_is)
    (case a__law_book => k_is)
    (case l__law_book => k_is)
    (case c__law_book => k_is)
    (case k__law_book => k_is)
    (case a__law_other_web => k_is)
    (case l__law_other_web => k_is)
    (case c__law_other_web => k_is)
    (case k__law_other_web => k_is)
    (case a__law_other_book => k_is)
    (case l__law_other_book => k_is)
    (case c__law_other_book => k_is)
    (case k__law_other_book => k_is)
    (case a__law_alike => k_is)
    (case l__law_alike => k_is)
    (case c__law_alike => k_is)
    (case k__law_alike => k_is)
    (case xL_BadBook => k_is)
    (case xr_BadBook => decide +kernel)
    (case xi_BadBook => k_is)
    (case l_BadBook__init__ => k_is)
    (case c_BadBook__init__ => k_is)
    (case k_BadBook__init__ => k_is)
    (case xt_BadBook => k_is)
    (case xk_BadBook => k_is)
    (case xs_BadBook => k_is)
    (case xy_BadBook => k_is)
    (case xsa_BadBook => k_is)
    (case xga_BadBook => k_is)
    (case xgg_BadBook => k_is)
    (case xhd_BadBook => k_is)
    (case no_BadBook => k_is)
    (case xL_BadWeb => k_is)
    (case xr_BadWeb => decide +kernel)
    (case xi_BadWeb => k_is)
    (case l_BadWeb__init__ => k_is)
    (case c_BadWeb__init__ => k_is)
    (case k_BadWeb__init__ => k_is)
    (case xt_BadWeb => k_is)
    (case xk_BadWeb => k_is)
    (case xs_BadWeb => k_is)
    (case xy_BadWeb => k_is)
    (case xsa_BadWeb => k_is)
    (case xga_BadWeb => k_is)
    (case xgg_BadWeb => k_is)
    (case xhd_BadWeb => k_is)
    (case no_BadWeb => k_is)
    (case wm_Book => k_is)
    (case wf_Book => k_is)
    (case wk_Book => k_is)
    (case wp_Book => k_is)
    (case wd_Book => k_is)
    (case wo_Book => k_is)
    (case ws_Book => k_is)
    (case wc_Book => k_is)
    (case wg_Book => k_is)
    (case wt_Book => k_is)
    (case wr_Book => k_is)
    (case wint_Book => k_is)
    (case wbool_Book => k_is)
    (case wstr_Book => k_is)
    (case wtuple_Book => k_is)
    (case wlist_Book => k_is)
    (case wm_Web => k_is)
    (case wf_Web => k_is)
    (case wk_Web => k_is)
    (case wp_Web => k_is)
    (case wd_Web => k_is)
    (case wo_Web => k_is)
    (case ws_Web => k_is)
    (case wc_Web => k_is)
    (case wg_Web => k_is)
    (case wt_Web => k_is)
    (case wr_Web => k_is)
    (case wint_Web => k_is)
    (case wbool_Web => k_is)
    (case wstr_Web => k_is)
    (case wtuple_Web => k_is)
    (case wlist_Web => k_is)
    (case ocn_Book => k_is)
    (case ocf_Book => k_is)
    (case ocn_Web => k_is)
    (case ocf_Web => k_is)
    (case na_Book_kinds => k_is)
    (case na_Book_sorts => k_is)
    (case na_Web_pipes => k_is)
    (case na_Web_widths => k_is)
    (case z_abs => k_is)
    (case z_all => k_is)
    (case z_bool => k_is)
    (case z_enumerate => k_is)
    (case z_int => k_is)
    (case z_isinstance => k_is)
    (case z_len => k_is)
    (case z_list => k_is)
    (case z_range => k_is)
    (case z_sorted => k_is)
    (case z_str => k_is)
    (case z_tuple => k_is)
    (case z_zip => k_is)
    (case n_MOST_BOTTOM => k_is)
    (case n_MOST_CAP => k_is)
    (case n_MOST_KINDS => k_is)
    (case n_MOST_PIPES => k_is)
    (case n_MOST_SORTS => k_is)
    (case n_MOST_THRESHOLDS => k_is)
    (case n_MOST_TOP => k_is)
    (case n_MOST_VESSELS => k_is)
    (case n_MOST_WIDTH => k_is)
    (case m_gcd => k_is)
    (case ci_Web => k_is)
    (case cy_Web => k_is)
    (case cs_Web => k_is)
    (case wNoneType_Web => k_is)
    (case wdict_Web => k_is)
    (case ci_Book => k_is)
    (case cy_Book => k_is)
    (case cs_Book => k_is)
    (case wNoneType_Book => k_is)
    (case wdict_Book => k_is)
    (case cn_WB => k_is)
    (case cn_BW => k_is)
    (case ne_WB => decide +kernel)
    (case ne_BW => decide +kernel)
    (case nf_W => k_is)
    (case nf_B => k_is)
    (case a_law => k_is)
    (case l_law => k_is)
    (case c_law => k_is)
